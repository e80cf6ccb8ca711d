/- The document's answers for texts: Read: its contract. -/
import Derived.Test.YtimhjmeebahdaaaDoorRead
namespace Go.Proofs.YtimhjmeebahdaaaDoor
set_option linter.unusedVariables false
set_option linter.unusedSimpArgs false
open Go.RowKit

set_option maxHeartbeats 1000000 in
theorem rread_ok (A : Option Addr) (l : List UInt8) (n c : Nat) (w : World) (h : Rb w w.heap.size A l) (hl : l.length ≤ 140737488355328) (hn : l.length = n) (hc : n ≤ c) (hc2 : c ≤ 9223372036854775807) :
    Calls Tryd.prog 22 #[.slice A n c] w fun e w' => e = readE (readS l) ∧ w = w' := by
  subst hn
  cases l with
  | nil =>
    go_enter Tryd.func22, Tryd.ntmps22
    go_wp2
    go_ret3
    exact ⟨rfl, rfl⟩
  | cons b r =>
    rcases h with h | ⟨g, o, rfl, hg, hcell⟩
    · cases h
    · have c0 : w.cell? ⟨g, o, none⟩ = some (.int .u8 (b.toNat : Int)) := by
        have := hcell 0 (by simp)
        simpa using this
      obtain ⟨m, hm⟩ : ∃ m, m = b.toNat := ⟨_, rfl⟩
      have hm2 : m < 256 := by rw [hm]; exact b.toNat_lt
      have HR := Lib.hid (show readS (b :: r) = if m ≤ r.length then some (r.take m) else none by rw [hm]; rfl)
      have HRB := Lib.hid (show m ≤ r.length → Rb w w.heap.size (some ⟨g, o + 1, none⟩) (r.take m) from fun hmr => .inr ⟨g, o + 1, rfl, hg, fun i hi => by
        have hi2 : i < r.length := by rw [List.length_take] at hi; omega
        have := hcell (i + 1) (by simp; omega)
        rw [show o + 1 + i = o + (i + 1) by omega, this]
        simp⟩)
      rw [← hm] at c0
      obtain ⟨R, hR⟩ : ∃ R, R = readS (b :: r) := ⟨_, rfl⟩
      rw [← hR] at HR ⊢
      obtain ⟨L, hL⟩ : ∃ L, L = r.length := ⟨_, rfl⟩
      have HL := Lib.hid hL
      have b0 : ((L : Int) + 1 == 0) = false := by simp; omega
      have hLc : L + 1 ≤ c := by rw [hL]; simpa using hc
      have hL2 : L ≤ 140737488355328 := by rw [hL]; simp at hl; omega
      have e1 : (b :: r).length = L + 1 := by rw [hL]; rfl
      rw [e1]
      clear hm hR hL hcell e1 hl hc
      by_cases hmr : m ≤ L
      · have b2 : decide (L < m) = false := by simp; omega
        by_cases hc1 : c = 1
        · have hm0 : m = 0 := by omega
          have hL0 : L = 0 := by omega
          have hRs := Lib.hid (show R = some [] by rw [HR.out, if_pos (by rw [← HL.out]; exact hmr), hm0]; rfl)
          have hst := str_of (P := Tryd.prog) (Rb.nil w 0 (some ⟨g, o, none⟩)) 24 5 9 Tryd.underlying24 Tryd.underlying5 Tryd.underlying9 0 0 rfl
          subst hc1; subst hm0; subst hL0
          go_enter Tryd.func22, Tryd.ntmps22
          go_wp2
          go_ret3
          exact ⟨by rw [hRs.out]; rfl, rfl⟩
        · have hst := str_of (P := Tryd.prog) (HRB.out (by rw [← HL.out]; exact hmr)) 24 5 9 Tryd.underlying24 Tryd.underlying5 Tryd.underlying9 m (c - 1) (by rw [List.length_take, ← HL.out]; omega)
          have hRs := Lib.hid (show R = some (r.take m) by rw [HR.out, if_pos (by rw [← HL.out]; exact hmr)])
          have HLt := Lib.hid (show (r.take m).length = m by rw [List.length_take, ← HL.out]; omega)
          generalize r.take m = tl at hst hRs HLt
          go_enter Tryd.func22, Tryd.ntmps22
          go_wp2
          go_ret3
          exact ⟨by rw [hRs.out, readE, HLt.out, Int.add_comm]; rfl, rfl⟩
      · have hRs := Lib.hid (show R = none by rw [HR.out, if_neg (by rw [← HL.out]; exact hmr)])
        go_enter Tryd.func22, Tryd.ntmps22
        go_wp2
        go_ret3
        exact ⟨by rw [hRs.out]; rfl, rfl⟩

end Go.Proofs.YtimhjmeebahdaaaDoor
