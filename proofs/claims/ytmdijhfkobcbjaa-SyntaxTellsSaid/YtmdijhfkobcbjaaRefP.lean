/- The document's answers for decimals: Parse: its contract. -/
import Derived.Test.YtmdijhfkobcbjaaParMath
namespace Go.Proofs.Ytmdijhfkobcbjaa
set_option linter.unusedVariables false
set_option linter.unusedSimpArgs false
open Go.RowKit

/-- Where the document's Parse stands behind i bytes. -/
def PInv (s : ByteArray) (R : Option (Nat × Nat)) (i n : Nat) : Prop :=
  (i < s.size ∧ n ≤ 1099511627776 ∧ numS 10 (stP s) (s.size + 1 - i) i n = R ∧ (i = 0 ∧ n = 0 ∨ 1 ≤ i ∧ 10 ^ (i - 1) ≤ n ∧ s.data.toList.head? ≠ some 48)) ∨
  (i = s.size ∧ 0 < s.size ∧ n ≤ 1099511627776 ∧ R = some (n, s.size) ∧ (s.data.toList.head? = some 48 → s.size = 1)) ∨
  (R = none ∧ (1099511627776 < n ∨ (s.data.toList.head? = some 48 ∧ 1 < s.size))) ∨
  (s.size = 0 ∧ R = none)

theorem PInv.start (s : ByteArray) : PInv s (parseS s) 0 0 := by
  by_cases h : 0 < s.size
  · exact .inl ⟨h, by omega, rfl, .inl ⟨rfl, rfl⟩⟩
  · refine .inr (.inr (.inr ⟨by omega, ?_⟩))
    unfold parseS
    have e : s.size + 1 = 0 + 1 := by omega
    rw [e]
    exact numS_no (by rw [stP_end _ _ h])

theorem head_at (s : ByteArray) (h : 0 < s.size) : s.data.toList.head? = some s[0] := by
  have h2 : 0 < s.data.toList.length := h
  cases hd : s.data.toList with
  | nil => rw [hd] at h2; simp at h2
  | cons c r =>
    have : s.data.toList[0] = s[0] := by
      show s.data.toList[0] = s.data[0]
      simp
    simp only [hd, List.getElem_cons_zero] at this
    simp [this]

/-- A digit. -/
theorem par_step {s : ByteArray} {R : Option (Nat × Nat)} {i n v : Nat} (hI : PInv s R i n) (h : i < s.size) (hv : (s[i]).toNat = v) (h1 : 48 ≤ v) (h2 : v ≤ 57) : PInv s R (i + 1) (10 * n + (v - 48)) := by
  have hst := stP_at s i h
  rw [hv, decide_eq_true (And.intro h1 h2)] at hst
  have ef : s.size + 1 - i = (s.size + 1 - (i + 1)) + 1 := by omega
  have ec : n * 10 = 10 * n := Nat.mul_comm _ _
  rcases hI with ⟨_, hn, hS, hlo⟩ | ⟨hi, _⟩ | ⟨hR, hbad⟩ | ⟨h0, _⟩
  · rw [ef] at hS
    by_cases hbig : 1099511627776 < 10 * n + (v - 48)
    · rw [numS_big' hst (by omega)] at hS
      exact .inr (.inr (.inl ⟨hS.symm, .inl hbig⟩))
    · by_cases hlast : i + 1 = s.size
      · rw [decide_eq_true hlast] at hst
        rw [numS_last hst (by omega), ec] at hS
        refine .inr (.inl ⟨hlast, by omega, by omega, by rw [← hS, hlast], fun h48 => ?_⟩)
        rcases hlo with ⟨rfl, _⟩ | ⟨_, _, hh⟩
        · omega
        · exact absurd h48 hh
      · rw [decide_eq_false hlast] at hst
        by_cases hz : 10 * n + (v - 48) = 0
        · have hR : R = none := by rw [← hS]; exact numS_zero' hst (by omega)
          refine .inr (.inr (.inl ⟨hR, .inr ⟨?_, by omega⟩⟩))
          rcases hlo with ⟨rfl, rfl⟩ | ⟨hi, hlo, _⟩
          · rw [head_at s h]
            have : s[0] = 48 := by
              have hv0 : (s[0]).toNat = 48 := by rw [hv]; omega
              exact UInt8.toNat_inj.1 hv0
            rw [this]
          · have : 0 < 10 ^ (i - 1) := Nat.pow_pos (by omega)
            omega
        · rw [numS_more hst (by omega) (by omega), ec] at hS
          refine .inl ⟨by omega, by omega, hS, .inr ⟨by omega, ?_, ?_⟩⟩
          · rcases hlo with ⟨rfl, rfl⟩ | ⟨hi, hlo, _⟩
            · simp; omega
            · obtain ⟨j, rfl⟩ : ∃ j, i = j + 1 := ⟨i - 1, by omega⟩
              simp only [Nat.add_sub_cancel] at hlo ⊢
              rw [Nat.pow_succ]; omega
          · rcases hlo with ⟨rfl, rfl⟩ | ⟨_, _, hh⟩
            · rw [head_at s h]
              intro he
              injection he with he
              have : (s[0]).toNat = 48 := by rw [he]; rfl
              omega
            · exact hh
  · omega
  · refine .inr (.inr (.inl ⟨hR, ?_⟩))
    rcases hbad with hb | hb
    · exact .inl (by omega)
    · exact .inr hb
  · omega

/-- No digit; or the fourteenth one. -/
theorem par_no {s : ByteArray} {R : Option (Nat × Nat)} {i n v : Nat} (hI : PInv s R i n) (h : i < s.size) (hv : (s[i]).toNat = v) (h1 : ¬ (48 ≤ v ∧ v ≤ 57) ∨ 13 ≤ i) : R = none := by
  have hst := stP_at s i h
  rw [hv] at hst
  have ef : s.size + 1 - i = (s.size + 1 - (i + 1)) + 1 := by omega
  rcases hI with ⟨_, hn, hS, hlo⟩ | ⟨hi, _⟩ | ⟨hR, _⟩ | ⟨h0, _⟩
  · rw [ef] at hS
    by_cases hd : 48 ≤ v ∧ v ≤ 57
    · rw [decide_eq_true hd] at hst
      have hi : 13 ≤ i := by rcases h1 with h1 | h1; exact absurd hd h1; exact h1
      have hbig : 1000000000000 ≤ n := by
        rcases hlo with ⟨h0, _⟩ | ⟨_, hlo, _⟩
        · omega
        · have : 10 ^ 12 ≤ 10 ^ (i - 1) := Nat.pow_le_pow_right (by omega) (by omega)
          have e : (10 : Nat) ^ 12 = 1000000000000 := by decide
          omega
      rw [numS_big' hst (by omega)] at hS
      exact hS.symm
    · rw [decide_eq_false hd] at hst
      rw [numS_no (by rw [hst])] at hS
      exact hS.symm
  · omega
  · exact hR
  · omega

/-- A byte of a text, behind a letter. -/
theorem idx_at (s : ByteArray) (i v : Nat) (h : i < s.size) (hv : (s[i]).toNat = v) (w : World) : (Instr.index 9 (.string s) (.int .i64 (i : Int))).run Try.prog w = .ok (.int .u8 (v : Int)) w := by
  subst hv
  rw [run_index_string (P := Try.prog) w 9 s .i64 i Try.underlying9]
  simp [h]

set_option maxRecDepth 100000 in
set_option maxHeartbeats 2000000 in
theorem rparse_ok (s : ByteArray) (w : World) (hs : s.size ≤ 140737488355328) :
    Calls Try.prog 27 #[.string s] w fun e w' => e = parE (parseS s) ∧ w = w' := by
  have HI := Lib.hid (PInv.start s)
  obtain ⟨R, hR⟩ : ∃ R, parseS s = R := ⟨_, rfl⟩
  rw [hR] at HI ⊢
  clear hR
  go_enter Try.func27, Try.ntmps27
  go_wp2_with fail
  go_loop [4, 5] (fun v4 v5 => ∃ x i : Nat, v4 = .int .i64 x ∧ v5 = .int .i64 i ∧ i ≤ s.size ∧ i ≤ 13 ∧ x < 10 ^ i ∧ Hid (PInv s R i x)) (fun _ v5 => s.size - (intOf v5).toNat)
  case atStart => exact ⟨0, 0, rfl, rfl, by omega, by omega, by simp, HI⟩
  case round =>
    obtain ⟨x, i, rfl, rfl, hi, hi13, hx, HG⟩ := hrel
    have hx13 : x < 10000000000000 := by
      have : 10 ^ i ≤ 10 ^ 13 := Nat.pow_le_pow_right (by omega) hi13
      have e : (10 : Nat) ^ 13 = 10000000000000 := by decide
      omega
    have HX := Lib.hid hx
    clear hx HI
    by_cases hil : i < s.size
    · obtain ⟨v, hv⟩ : ∃ v : Nat, v = (s[i]).toNat := ⟨_, rfl⟩
      have hv2 : v < 256 := by rw [hv]; exact (s[i]).toNat_lt
      have hidx := idx_at s i v hil hv.symm
      have HV := Lib.hid hv.symm
      clear hv
      by_cases d1 : v < 48
      · have hR := Lib.hid (par_no HG.out hil HV.out (.inl (by omega)))
        have b1 : decide ((v : Int) < 48) = true := by simp; omega
        go_wp2
        go_ret2
        exact ⟨by rw [hR.out]; rfl, rfl⟩
      · have b1 : decide ((v : Int) < 48) = false := by simp; omega
        by_cases d2 : 57 < v
        · have hR := Lib.hid (par_no HG.out hil HV.out (.inl (by omega)))
          have b2 : decide ((57 : Int) < (v : Int)) = true := by simp; omega
          go_wp2
          go_ret2
          exact ⟨by rw [hR.out]; rfl, rfl⟩
        · have b2 : decide ((57 : Int) < (v : Int)) = false := by simp; omega
          by_cases d3 : 13 ≤ i
          · have hR := Lib.hid (par_no HG.out hil HV.out (.inr d3))
            have b3 : decide ((13 : Int) ≤ (i : Int)) = true := by simp; omega
            go_wp2
            go_ret2
            exact ⟨by rw [hR.out]; rfl, rfl⟩
          · have b3 : decide ((13 : Int) ≤ (i : Int)) = false := by simp; omega
            have G := Lib.hid (par_step HG.out hil HV.out (by omega) (by omega))
            go_wp2
            go_round
            case rel => exact ⟨10 * x + (v - 48), i + 1, by go_num, by go_num, by omega, by omega, by have := HX.out; rw [Nat.pow_succ]; omega, G⟩
            case measure => simp [intOf]; omega
    · have hie : i = s.size := by omega
      by_cases h0 : s.size = 0
      · have hR : R = none := by
          rcases HG.out with ⟨h, _⟩ | ⟨_, h, _⟩ | ⟨h, _⟩ | ⟨_, h⟩
          · omega
          · omega
          · exact h
          · exact h
        have HR := Lib.hid hR
        have b0 : ((s.size : Int) == 0) = true := beq_iff_eq.2 (by omega)
        clear hR hie
        go_wp2
        go_ret2
        exact ⟨by rw [HR.out]; rfl, rfl⟩
      · have b0 : ((s.size : Int) == 0) = false := beq_eq_false_iff_ne.2 (by omega)
        have hpos : 0 < s.size := by omega
        obtain ⟨v, hv⟩ : ∃ v : Nat, v = (s[0]).toNat := ⟨_, rfl⟩
        have hv2 : v < 256 := by rw [hv]; exact (s[0]).toNat_lt
        have hidx : ∀ w, (Instr.index 9 (.string s) (.int .i64 0)).run Try.prog w = .ok (.int .u8 (v : Int)) w := fun w => idx_at s 0 v hpos hv.symm w
        have hh := head_at s hpos
        have h48 : s.data.toList.head? = some 48 ↔ v = 48 := by
          rw [hh, hv]
          constructor
          · intro h; injection h with h; rw [h]; rfl
          · intro h; rw [UInt8.toNat_inj.1 (show (s[0]).toNat = (48 : UInt8).toNat from h)]
        have H48 := Lib.hid h48
        clear hv hh h48
        have hfin : (R = none ∧ (1099511627776 < x ∨ (v = 48 ∧ 1 < s.size))) ∨ (R = some (x, s.size) ∧ x ≤ 1099511627776 ∧ (v = 48 → s.size = 1)) := by
          rcases HG.out with ⟨h, _⟩ | ⟨_, h, hx, hR, hh⟩ | ⟨hR, hb⟩ | ⟨h, _⟩
          · omega
          · exact .inr ⟨hR, hx, fun h => hh (H48.out.2 h)⟩
          · refine .inl ⟨hR, ?_⟩
            rcases hb with hb | ⟨hb, hb2⟩
            · exact .inl hb
            · exact .inr ⟨H48.out.1 hb, hb2⟩
          · omega
        have b3 : decide ((1 : Int) < (s.size : Int)) = decide (1 < s.size) := decide_eq_decide.2 (by omega)
        by_cases c48 : v = 48
        · have b1 : ((v : Int) == 48) = true := by simp; omega
          by_cases c1 : 1 < s.size
          · have HR := Lib.hid (show R = none from hfin.elim (fun h => h.1) (fun h => absurd (h.2.2 c48) (by omega)))
            clear hfin hie c48 b3
            go_wp2
            go_ret2
            exact ⟨by rw [HR.out]; rfl, rfl⟩
          · by_cases cx : 1099511627776 < x
            · have HR := Lib.hid (show R = none from hfin.elim (fun h => h.1) (fun h => absurd h.2.1 (by omega)))
              clear hfin hie c48 b3
              go_wp2
              go_ret2
              exact ⟨by rw [HR.out]; rfl, rfl⟩
            · have HR := Lib.hid (show R = some (x, s.size) from hfin.elim (fun h => h.2.elim (fun h1 => absurd h1 cx) (fun h2 => absurd h2.2 c1)) (fun h => h.1))
              clear hfin hie c48 b3
              go_wp2
              go_ret2
              exact ⟨by rw [HR.out]; rfl, rfl⟩
        · have b1 : ((v : Int) == 48) = false := by simp; omega
          by_cases cx : 1099511627776 < x
          · have HR := Lib.hid (show R = none from hfin.elim (fun h => h.1) (fun h => absurd h.2.1 (by omega)))
            clear hfin hie c48 b3
            go_wp2
            go_ret2
            exact ⟨by rw [HR.out]; rfl, rfl⟩
          · have HR := Lib.hid (show R = some (x, s.size) from hfin.elim (fun h => h.2.elim (fun h1 => absurd h1 cx) (fun h2 => absurd h2.1 c48)) (fun h => h.1))
            clear hfin hie c48 b3
            go_wp2
            go_ret2
            exact ⟨by rw [HR.out]; rfl, rfl⟩

end Go.Proofs.Ytmdijhfkobcbjaa
