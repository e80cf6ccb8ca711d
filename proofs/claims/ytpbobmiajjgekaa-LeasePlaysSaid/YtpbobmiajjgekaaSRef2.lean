/- The document's own: Name, Dots: their contracts. -/
import Derived.Test.YtpbobmiajjgekaaG17
namespace Go.Proofs.Ytpbobmiajjgekaa
set_option linter.unusedVariables false
set_option maxRecDepth 100000
set_option linter.unusedSimpArgs false
open Go.RowKit

def okI (l : List UInt8) (i : Nat) : Bool := letB (l.getD i 0) || (decide ((l.getD i 0).toNat = 45) && decide (0 < i) && decide (i + 1 < l.length))
theorem nmd_let (c : UInt8) : nmdB c = (letB c || decide (c.toNat = 45)) := rfl
theorem ok_nmd (l : List UInt8) (i : Nat) (h : okI l i = true) : nmdB (l.getD i 0) = true := by
  unfold okI at h
  rw [nmd_let]
  simp only [Bool.or_eq_true, Bool.and_eq_true, decide_eq_true_eq] at h ⊢
  rcases h with h | h
  · exact .inl h
  · exact .inr h.1.1
theorem let_not (c : UInt8) (h : letB c = true) : c.toNat ≠ 45 := by
  intro e
  unfold letB at h
  rw [e] at h
  simp at h
theorem all_getD (p : UInt8 → Bool) (l : List UInt8) : l.all p = true ↔ ∀ i, i < l.length → p (l.getD i 0) = true := by
  rw [List.all_eq_true]
  constructor
  · intro h i hi
    rw [List.getD, List.getElem?_eq_getElem hi]
    exact h _ (List.getElem_mem hi)
  · intro h x hx
    obtain ⟨i, hi, rfl⟩ := List.mem_iff_getElem.1 hx
    have := h i hi
    rwa [List.getD, List.getElem?_eq_getElem hi] at this
theorem name_all (l : List UInt8) (h : ∀ i, i < l.length → okI l i = true) : nameL l = (decide (1 ≤ l.length) && decide (l.length ≤ 20)) := by
  unfold nameL
  have ha : l.all nmdB = true := (all_getD nmdB l).2 (fun i hi => ok_nmd l i (h i hi))
  rw [ha]
  by_cases h1 : 1 ≤ l.length
  · have g0 := h 0 (by omega)
    have g1 := h (l.length - 1) (by omega)
    have e0 : (l.getD 0 0).toNat ≠ 45 := by
      unfold okI at g0
      simp only [Bool.or_eq_true, Bool.and_eq_true, decide_eq_true_eq] at g0
      rcases g0 with g | g
      · exact let_not _ g
      · omega
    have e1 : (l.getD (l.length - 1) 0).toNat ≠ 45 := by
      unfold okI at g1
      simp only [Bool.or_eq_true, Bool.and_eq_true, decide_eq_true_eq] at g1
      rcases g1 with g | g
      · exact let_not _ g
      · omega
    rw [decide_eq_true e0, decide_eq_true e1]; simp
  · simp [h1]
theorem name_not (l : List UInt8) (i : Nat) (hi : i < l.length) (h : okI l i = false) : nameL l = false := by
  cases hn : nameL l with
  | false => rfl
  | true =>
    have p := name_p hn
    have ha := (all_getD nmdB l).1 p.all i hi
    rw [nmd_let] at ha
    unfold okI at h
    simp only [Bool.or_eq_true, Bool.or_eq_false_iff, Bool.and_eq_false_iff, decide_eq_true_eq, decide_eq_false_iff_not] at ha h
    rcases ha with g | g
    · rw [h.1] at g; cases g
    · rcases h.2 with (h2 | h2) | h2
      · exact (h2 g).elim
      · have : i = 0 := by omega
        subst this
        exact (p.first g).elim
      · have : i = l.length - 1 := by omega
        subst this
        exact (p.last g).elim

set_option maxRecDepth 100000 in
set_option maxHeartbeats 2000000 in
theorem rname_ok (s : ByteArray) (w : World) (hs : s.size ≤ 140737488355328) :
    Calls Try.prog 31 #[.string s] w fun e w' => e = .returned (.bool (nameB s)) ∧ w = w' := by
  obtain ⟨R, hR⟩ : ∃ R, nameL s.data.toList = R := ⟨_, rfl⟩
  rw [show nameB s = R from hR]
  have HR := Lib.hid hR
  clear hR
  go_enter Try.func31, Try.ntmps31
  go_wp2_with fail
  go_loop [3] (fun v3 => ∃ i : Nat, i ≤ s.size ∧ v3 = .int .i64 i ∧ Hid (∀ j, j < i → okI s.data.toList j = true)) (fun v3 => s.size - (intOf v3).toNat)
  case atStart => exact ⟨0, by omega, rfl, Lib.hid (fun j hj => by omega)⟩
  case round =>
    obtain ⟨i, hi, rfl, HE⟩ := hrel
    by_cases hlt : i < s.size
    · obtain ⟨v, hv⟩ : ∃ v, (s.data.toList.getD i 0).toNat = v := ⟨_, rfl⟩
      have hv2 : v < 256 := by rw [← hv]; exact UInt8.toNat_lt _
      have hxi := sidx s i v hlt hv w
      have HOK := Lib.hid (show okI s.data.toList i = (((decide (97 ≤ v) && decide (v ≤ 122)) || (decide (48 ≤ v) && decide (v ≤ 57))) || (decide (v = 45) && decide (0 < i) && decide (i + 1 < s.size))) by
        unfold okI letB; rw [hv]; rfl)
      have HNO := Lib.hid (fun h : okI s.data.toList i = false => show R = false by rw [← HR.out]; exact name_not _ i hlt h)
      have HYES := Lib.hid (fun h : okI s.data.toList i = true => show ∀ j, j < i + 1 → okI s.data.toList j = true from fun j hj => by
        by_cases hji : j = i
        · rw [hji]; exact h
        · exact HE.out j (by omega))
      clear hv HE HR
      by_cases h45 : v = 45
      · subst h45
        have hxi : (Instr.index 9 (.string s) (.int .i64 (i : Int))).run Try.prog w = .ok (.int .u8 45) w := hxi
        by_cases hi0 : 0 < i
        · by_cases hil : i + 1 < s.size
          · have hil2 : (i : Int) < (s.size : Int) - 1 := by omega
            have hil3 : decide ((i : Int) < (s.size : Int) - 1) = true := by simp <;> omega
            go_wp2
            go_round
            case rel => exact ⟨i + 1, by omega, by go_num, Lib.hid (HYES.out (by rw [HOK.out]; simp [hi0, hil]))⟩
            case measure => simp [intOf]; omega
          · have hil2 : (s.size : Int) - 1 ≤ (i : Int) := by omega
            have hil3 : decide ((i : Int) < (s.size : Int) - 1) = false := by simp <;> omega
            go_wp2
            go_ret
            exact ⟨by rw [HNO.out (by rw [HOK.out]; simp [hil])]; rfl, rfl⟩
        · obtain rfl : i = 0 := by omega
          have hxi : (Instr.index 9 (.string s) (.int .i64 0)).run Try.prog w = .ok (.int .u8 45) w := hxi
          go_wp2
          go_ret
          exact ⟨by rw [HNO.out (by rw [HOK.out]; simp)]; rfl, rfl⟩
      · have e45 : ((v : Int) == 45) = false := by rw [beq_eq_false_iff_ne]; omega
        by_cases hy : (97 ≤ v ∧ v ≤ 122) ∨ (48 ≤ v ∧ v ≤ 57)
        · have HY := Lib.hid (HYES.out (by rw [HOK.out]; simp; omega))
          clear HOK HNO HYES h45
          rcases hy with ⟨a1, a2⟩ | ⟨a1, a2⟩
          · have b1 : (97 : Int) ≤ (v : Int) := by omega
            have b2 : (v : Int) ≤ 122 := by omega
            go_wp2
            go_round
            case rel => exact ⟨i + 1, by omega, by go_num, HY⟩
            case measure => simp [intOf]; omega
          · have b1 : (48 : Int) ≤ (v : Int) := by omega
            have b2 : (v : Int) ≤ 57 := by omega
            have b3 : (v : Int) < 97 := by omega
            go_wp2
            go_round
            case rel => exact ⟨i + 1, by omega, by go_num, HY⟩
            case measure => simp [intOf]; omega
        · have HN := Lib.hid (HNO.out (by rw [HOK.out]; simp [h45]; omega))
          clear HOK HNO HYES h45
          rcases Nat.lt_or_ge v 48 with a1 | a1
          · have b1 : (v : Int) < 48 := by omega
            have b2 : (v : Int) < 97 := by omega
            go_wp2
            go_ret
            exact ⟨by rw [HN.out]; rfl, rfl⟩
          · rcases Nat.lt_or_ge v 97 with a2 | a2
            · have b1 : (57 : Int) < (v : Int) := by omega
              have b2 : (v : Int) < 97 := by omega
              have b3 : (48 : Int) ≤ (v : Int) := by omega
              go_wp2
              go_ret
              exact ⟨by rw [HN.out]; rfl, rfl⟩
            · have b1 : (122 : Int) < (v : Int) := by omega
              have b2 : (97 : Int) ≤ (v : Int) := by omega
              have b3 : (57 : Int) < (v : Int) := by omega
              have b4 : (48 : Int) ≤ (v : Int) := by omega
              go_wp2
              go_ret
              exact ⟨by rw [HN.out]; rfl, rfl⟩
    · have HF := Lib.hid (show R = (decide (1 ≤ s.size) && decide (s.size ≤ 20)) by
        rw [← HR.out]
        exact name_all _ (fun j hj => HE.out j (by have : s.data.toList.length = s.size := rfl; omega)))
      clear HE HR
      by_cases h1 : 1 ≤ s.size
      · by_cases h2 : s.size ≤ 20
        · rw [decide_eq_true h1, decide_eq_true h2] at HF
          have b1 : decide ((1 : Int) ≤ (s.size : Int)) = true := by simp <;> omega
          have b2 : decide ((s.size : Int) ≤ 20) = true := by simp <;> omega
          go_wp2
          go_ret
          exact ⟨by rw [HF.out]; rfl, rfl⟩
        · rw [decide_eq_true h1, decide_eq_false h2] at HF
          have b1 : decide ((1 : Int) ≤ (s.size : Int)) = true := by simp <;> omega
          have b2 : decide ((s.size : Int) ≤ 20) = false := by simp <;> omega
          go_wp2
          go_ret
          exact ⟨by rw [HF.out]; rfl, rfl⟩
      · rw [decide_eq_false h1] at HF
        have b1 : decide ((1 : Int) ≤ (s.size : Int)) = false := by simp <;> omega
        go_wp2
        go_ret
        exact ⟨by rw [HF.out]; rfl, rfl⟩
end Go.Proofs.Ytpbobmiajjgekaa
