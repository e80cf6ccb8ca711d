/- frame.fits, begins, First, Put: their contracts. -/
import Derived.Test.YtndamiocmdnenaaFrameM
import Derived.Test.YtndamiocmdnenaaFrs
import Derived.Test.YtndamiocmdnenaaShelf
import Derived.Test.YtndamiocmdnenaaTail
import Derived.Test.YtndamiocmdnenaaBytesAt
namespace Go.Proofs.Ytndamiocmdnenaa
set_option linter.unusedVariables false
set_option maxRecDepth 100000
set_option linter.unusedSimpArgs false
open Go.RowKit

theorem frbytesInfo : (Try.prog.info? 5).map (fun i => (i.zero, i.size, i.bytes)) = some (some (.int .u8 0), 1, 1) := by kernel_rfl
/-- May a frame have so many bytes? -/
def fitB (n : Int) : Bool := decide (0 < n) && decide (n ≤ 200)

set_option maxHeartbeats 400000 in
theorem fits_ok (n : Int) (w : World) : Calls Try.prog 92 #[.int .i64 n] w fun e w' => e = .returned (.bool (fitB n)) ∧ w = w' := by
  obtain ⟨v, hv⟩ : ∃ v, fitB n = v := ⟨_, rfl⟩
  rw [hv]
  unfold fitB at hv
  by_cases h1 : 0 < n
  · by_cases h2 : n ≤ 200
    · have e : v = true := by rw [← hv]; simp; omega
      subst e
      clear hv
      go_enter Try.func92, Try.ntmps92
      go_wp2
      go_ret
      exact ⟨rfl, rfl⟩
    · have e : v = false := by rw [← hv]; simp; omega
      subst e
      clear hv
      go_enter Try.func92, Try.ntmps92
      go_wp2
      go_ret
      exact ⟨rfl, rfl⟩
  · have e : v = false := by rw [← hv]; simp; omega
    subst e
    clear hv
    go_enter Try.func92, Try.ntmps92
    go_wp2
    go_ret
    exact ⟨rfl, rfl⟩

/-- A byte of a slice. -/
theorem Rb.byte {w : World} {B : Nat} {A : Option Addr} {l : List UInt8} (h : Rb w B A l) (i : Nat) (hi : i < l.length) : ∃ b o, A = some ⟨b, o, none⟩ ∧ b < B ∧ w.cell? ⟨b, o + i, none⟩ = some (.int .u8 ((l[i]).toNat : Int)) := by
  rcases h with h0 | ⟨b, o, e, hb, hc⟩
  · subst h0; simp at hi
  · exact ⟨b, o, e, hb, hc i hi⟩

set_option maxHeartbeats 1000000 in
theorem begins_ok (A : Option Addr) (n c : Nat) (l : List UInt8) (w : World) (hl : l.length = n) (hR : Rb w w.heap.size A l) :
    Calls Try.prog 79 #[.slice A n c] w fun e w' => e = .returned (.bool (begB l)) ∧ w = w' := by
  match l, hl, hR with
  | [], hl, hR =>
    subst hl
    go_enter Try.func79, Try.ntmps79
    go_wp2
    go_ret
    exact ⟨rfl, rfl⟩
  | [m], hl, hR =>
    subst hl
    obtain ⟨b, o, rfl, _, c0⟩ := hR.byte 0 (by simp)
    rw [Nat.add_zero] at c0
    simp only [List.getElem_cons_zero] at c0
    have hb : begB [m] = (m.toNat == 170) := rfl
    rw [hb]
    by_cases h : m.toNat = 170
    · rw [h] at c0 ⊢
      go_enter Try.func79, Try.ntmps79
      go_wp2
      go_ret
      exact ⟨rfl, rfl⟩
    · have e1 : (m.toNat == 170) = false := by simp [h]
      rw [e1]
      obtain ⟨q, hq⟩ : ∃ q : Int, q = (m.toNat : Int) := ⟨_, rfl⟩
      rw [← hq] at c0
      have e2 : (q == 170) = false := by rw [beq_eq_false_iff_ne]; omega
      clear hq e1 hb
      go_enter Try.func79, Try.ntmps79
      go_wp2
      go_ret
      exact ⟨rfl, rfl⟩
  | m :: k :: r, hl, hR =>
    obtain ⟨b, o, rfl, _, c0⟩ := hR.byte 0 (by simp)
    obtain ⟨b', o', e', _, c1⟩ := hR.byte 1 (by simp)
    injection e' with e'
    injection e' with e1 e2
    subst e1; subst e2
    rw [Nat.add_zero] at c0
    simp only [List.getElem_cons_zero, List.getElem_cons_succ] at c0 c1
    have hb : begB (m :: k :: r) = (m.toNat == 170 && (decide (0 < k.toNat) && decide (k.toNat ≤ 200))) := rfl
    rw [hb]
    have hn2 : 2 ≤ n := by simp only [List.length_cons] at hl; omega
    clear hb hl hR
    have g0 : 0 < n := by omega
    have g1 : (0 : Int) < (n : Int) := by omega
    have g2 : ¬ ((n : Int) < 2) := by omega
    by_cases h : m.toNat = 170
    · rw [h] at c0 ⊢
      have HF := Lib.hid (fun u => fits_ok (k.toNat : Int) u)
      have hf : fitB (k.toNat : Int) = (decide (0 < k.toNat) && decide (k.toNat ≤ 200)) := by
        unfold fitB
        congr 1
        · simp
        · exact decide_eq_decide.2 (by omega)
      rw [hf] at HF
      have e3 : ((170 : Nat) == 170 && (decide (0 < k.toNat) && decide (k.toNat ≤ 200))) = (decide (0 < k.toNat) && decide (k.toNat ≤ 200)) := rfl
      rw [e3]
      obtain ⟨v, hv⟩ : ∃ v, (decide (0 < k.toNat) && decide (k.toNat ≤ 200)) = v := ⟨_, rfl⟩
      rw [hv] at HF ⊢
      obtain ⟨q, hq⟩ : ∃ q : Int, q = (k.toNat : Int) := ⟨_, rfl⟩
      have hq1 : 0 ≤ q ∧ q < 256 := by have := k.toNat_lt; omega
      rw [← hq] at c1 HF
      clear hq hf e3 hv h
      go_enter Try.func79, Try.ntmps79
      go_wp2_with (go_at_call 92; refine (HF.out _).mono ?_; rintro e w' ⟨rfl, rfl⟩)
      all_goals go_ret
      all_goals exact ⟨rfl, rfl⟩
    · have e1 : (m.toNat == 170) = false := by simp [h]
      rw [e1]
      obtain ⟨q, hq⟩ : ∃ q : Int, q = (m.toNat : Int) := ⟨_, rfl⟩
      rw [← hq] at c0
      have e2 : (q == 170) = false := by rw [beq_eq_false_iff_ne]; omega
      clear hq e1
      go_enter Try.func79, Try.ntmps79
      go_wp2
      go_ret
      exact ⟨rfl, rfl⟩
end Go.Proofs.Ytndamiocmdnenaa
