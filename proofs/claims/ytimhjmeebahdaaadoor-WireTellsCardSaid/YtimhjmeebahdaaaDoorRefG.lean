/- The document's answers for numbers: Get and Parse: their contracts. -/
import Derived.Test.YtimhjmeebahdaaaDoorGetMath
namespace Go.Proofs.YtimhjmeebahdaaaDoor
set_option linter.unusedVariables false
set_option linter.unusedSimpArgs false
open Go.RowKit

/-- Where the document's Get stands behind i bytes. -/
def GInv (l : List UInt8) (R : Option (Nat × Nat)) (i n : Nat) : Prop :=
  (n ≤ 1099511627776 ∧ numS 128 (stB l) (l.length + 1 - i) i n = R ∧ (i = 0 ∧ n = 0 ∨ 1 ≤ i ∧ 128 ^ (i - 1) ≤ n)) ∨ (1099511627776 < n ∧ R = none)

/-- It begins with no 128. -/
theorem get_lead (l : List UInt8) (h : 0 < l.length) (h0 : (l[0]).toNat = 128) : getS l = none := by
  unfold getS
  have hst := stB_at l 0 h
  rw [h0] at hst
  exact numS_zero' (d := 0) (by rw [hst]; rfl) (by omega)

/-- The last byte. -/
theorem get_last {l : List UInt8} {R : Option (Nat × Nat)} {i n v : Nat} (hI : GInv l R i n) (h : i < l.length) (hv : (l[i]).toNat = v) (hl : v < 128) :
    (128 * n + v ≤ 1099511627776 → R = some (128 * n + v, i + 1)) ∧ (1099511627776 < 128 * n + v → R = none) := by
  have hst := stB_at l i h
  rw [hv, Nat.mod_eq_of_lt hl, decide_eq_true hl] at hst
  have ef : l.length + 1 - i = (l.length - i) + 1 := by omega
  have ec : n * 128 = 128 * n := Nat.mul_comm _ _
  rcases hI with ⟨hn, hS, _⟩ | ⟨hn, hR⟩
  · rw [ef] at hS
    refine ⟨fun hle => ?_, fun hgt => ?_⟩
    · rw [numS_last hst (by omega), ec] at hS; exact hS.symm
    · rw [numS_big' hst (by omega)] at hS; exact hS.symm
  · exact ⟨fun hle => by omega, fun _ => hR⟩

/-- A byte with more behind it. -/
theorem get_more {l : List UInt8} {R : Option (Nat × Nat)} {i n v : Nat} (hI : GInv l R i n) (h : i < l.length) (hv : (l[i]).toNat = v) (hl : ¬ v < 128) (h0 : i = 0 → v ≠ 128) (hv2 : v < 256) :
    GInv l R (i + 1) (128 * n + v % 128) := by
  have hst := stB_at l i h
  rw [hv, decide_eq_false hl] at hst
  have ef : l.length + 1 - i = (l.length + 1 - (i + 1)) + 1 := by omega
  have ec : n * 128 = 128 * n := Nat.mul_comm _ _
  rcases hI with ⟨hn, hS, hlo⟩ | ⟨hn, hR⟩
  · rw [ef] at hS
    by_cases hbig : 1099511627776 < 128 * n + v % 128
    · rw [numS_big' hst (by omega)] at hS
      exact .inr ⟨hbig, hS.symm⟩
    · have hlow : 128 ^ i ≤ 128 * n + v % 128 := by
        rcases hlo with ⟨rfl, rfl⟩ | ⟨hi, hlo⟩
        · have := h0 rfl; simp; omega
        · obtain ⟨j, rfl⟩ : ∃ j, i = j + 1 := ⟨i - 1, by omega⟩
          rw [Nat.pow_succ]; simp only [Nat.add_sub_cancel] at hlo; omega
      have hpos : 0 < 128 ^ i := Nat.pow_pos (by omega)
      rw [numS_more hst (by omega) (by omega), ec] at hS
      exact .inl ⟨by omega, hS, .inr ⟨by omega, by simpa using hlow⟩⟩
  · exact .inr ⟨by omega, hR⟩

/-- Behind six bytes there is none; nor at the end. -/
theorem get_none {l : List UInt8} {R : Option (Nat × Nat)} {i n : Nat} (hI : GInv l R i n) (h : ¬ i < l.length ∨ i = 6) : R = none := by
  rcases hI with ⟨hn, hS, hlo⟩ | ⟨_, hR⟩
  · by_cases hi : i < l.length
    · have h6 : i = 6 := by rcases h with h | h; exact absurd hi h; exact h
      subst h6
      have hst := stB_at l 6 hi
      have ef : l.length + 1 - 6 = (l.length - 6) + 1 := by omega
      rw [ef] at hS
      have hn6 : 34359738368 ≤ n := by
        rcases hlo with ⟨h, _⟩ | ⟨_, hlo⟩
        · omega
        · have e : (128 : Nat) ^ (6 - 1) = 34359738368 := by decide
          omega
      rw [numS_big' hst (by omega)] at hS
      exact hS.symm
    · by_cases hle : i ≤ l.length
      · have ef : l.length + 1 - i = 0 + 1 := by omega
        rw [ef, numS_no (by rw [stB_end _ _ hi])] at hS
        exact hS.symm
      · have ef : l.length + 1 - i = 0 := by omega
        rw [ef] at hS
        exact hS.symm
  · exact hR

theorem GInv.start (l : List UInt8) : GInv l (getS l) 0 0 := .inl ⟨by omega, rfl, .inl ⟨rfl, rfl⟩⟩

set_option maxRecDepth 100000 in
set_option maxHeartbeats 1000000 in
theorem rget_ok (A : Option Addr) (l : List UInt8) (n c : Nat) (w : World) (h : Rb w w.heap.size A l) (hl : l.length ≤ 140737488355328) (hn : l.length = n) :
    Calls Tryd.prog 23 #[.slice A n c] w fun e w' => e = numE (getS l) ∧ w = w' := by
  subst hn
  have HI := Lib.hid (GInv.start l)
  have HLD := Lib.hid (get_lead l)
  obtain ⟨R, hR⟩ : ∃ R, getS l = R := ⟨_, rfl⟩
  rw [hR] at HI HLD ⊢
  clear hR
  have HRB := Lib.hid h
  clear h
  go_enter Tryd.func23, Tryd.ntmps23
  go_wp2_with fail
  go_loop [5, 6] (fun v5 v6 => ∃ x i : Nat, v5 = .int .i64 x ∧ v6 = .int .i64 i ∧ i ≤ 6 ∧ x < 128 ^ i ∧ Hid (GInv l R i x)) (fun _ v6 => 6 - (intOf v6).toNat)
  case atStart => exact ⟨0, 0, rfl, rfl, by omega, by simp, HI⟩
  case round =>
    obtain ⟨x, i, rfl, rfl, hi, hx, HG⟩ := hrel
    have hx6 : x < 4398046511104 := by
      have : 128 ^ i ≤ 128 ^ 6 := Nat.pow_le_pow_right (by omega) hi
      have e : (128 : Nat) ^ 6 = 4398046511104 := by decide
      omega
    have HX := Lib.hid hx
    clear hx HI
    by_cases hil : i < l.length
    · by_cases hi6 : i < 6
      · have hcell : ∃ b o, A = some ⟨b, o, none⟩ ∧ w.cell? ⟨b, o + i, none⟩ = some (.int .u8 ((l[i]).toNat : Int)) := by
          rcases HRB.out with h0 | ⟨b, o, e, _, hc⟩
          · rw [h0] at hil; simp at hil
          · exact ⟨b, o, e, hc i hil⟩
        obtain ⟨b, o, rfl, hc⟩ := hcell
        obtain ⟨v, hv⟩ : ∃ v : Nat, v = (l[i]).toNat := ⟨_, rfl⟩
        have hv2 : v < 256 := by rw [hv]; exact (l[i]).toNat_lt
        rw [← hv] at hc
        have HV := Lib.hid hv.symm
        have HLD2 := Lib.hid (show i = 0 → v = 128 → R = none from fun h0 h1 => by
          subst h0
          exact HLD.out hil (by rw [← hv]; exact h1))
        obtain ⟨L, hL⟩ : ∃ L, L = l.length := ⟨_, rfl⟩
        rw [← hL] at hl hil
        have HL := Lib.hid hL
        clear hv hL HLD
        by_cases hlast : v < 128
        · have G := get_last HG.out (by have := HL.out; omega) HV.out hlast
          have m1 : (v : Int) % 128 = (v : Int) := by omega
          by_cases hbig : 1099511627776 < 128 * x + v
          · have hR := Lib.hid (G.2 hbig)
            clear G HG
            by_cases hi0 : i = 0
            · subst hi0
              rw [Nat.add_zero] at hc
              have b1 : ((v : Int) == 128) = false := by simp; omega
              go_wp2
              go_ret3
              exact ⟨by rw [hR.out]; rfl, rfl⟩
            · have b0 : ((i : Int) == 0) = false := by simp; omega
              go_wp2
              go_ret3
              exact ⟨by rw [hR.out]; rfl, rfl⟩
          · have hR := Lib.hid (G.1 (by omega))
            clear G HG
            by_cases hi0 : i = 0
            · subst hi0
              rw [Nat.add_zero] at hc
              have b1 : ((v : Int) == 128) = false := by simp; omega
              go_wp2
              go_ret3
              exact ⟨by rw [hR.out, numE]; simp, rfl⟩
            · have b0 : ((i : Int) == 0) = false := by simp; omega
              go_wp2
              go_ret3
              exact ⟨by rw [hR.out, numE]; simp, rfl⟩
        · by_cases hi0 : i = 0
          · subst hi0
            rw [Nat.add_zero] at hc
            by_cases h128 : v = 128
            · have hR := Lib.hid (HLD2.out rfl h128)
              have b1 : ((v : Int) == 128) = true := by simp; omega
              clear h128
              go_wp2
              go_ret3
              exact ⟨by rw [hR.out]; rfl, rfl⟩
            · have G := Lib.hid (get_more HG.out (by have := HL.out; omega) HV.out hlast (fun _ => h128) hv2)
              have b1 : ((v : Int) == 128) = false := by simp; omega
              clear h128
              go_wp2
              go_round
              case rel => exact ⟨128 * x + v % 128, 1, by go_num, rfl, by omega, by have := HX.out; omega, G⟩
              case measure => simp [intOf]
          · have G := Lib.hid (get_more HG.out (by have := HL.out; omega) HV.out hlast (fun h => absurd h hi0) hv2)
            have b0 : ((i : Int) == 0) = false := by simp; omega
            go_wp2
            go_round
            case rel => exact ⟨128 * x + v % 128, i + 1, by go_num, by go_num, by omega, by have := HX.out; rw [Nat.pow_succ]; omega, G⟩
            case measure => simp [intOf]; omega
      · have hR := Lib.hid (get_none HG.out (.inr (by omega)))
        go_wp2
        go_ret3
        exact ⟨by rw [hR.out]; rfl, rfl⟩
    · have hR := Lib.hid (get_none HG.out (.inl hil))
      go_wp2
      go_ret3
      exact ⟨by rw [hR.out]; rfl, rfl⟩

end Go.Proofs.YtimhjmeebahdaaaDoor
