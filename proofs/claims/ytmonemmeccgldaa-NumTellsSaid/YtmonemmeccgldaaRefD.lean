/- The document's answers for numbers: Decimal, Read: their contracts. -/
import Derived.Test.YtmonemmeccgldaaLawC
namespace Go.Proofs.Ytmonemmeccgldaa
set_option linter.unusedVariables false
set_option linter.unusedSimpArgs false
open Go.RowKit

/-- One byte as a text. -/
theorem str_one {wx : World} {c : UInt8} {v : Int} (hv : v = (c.toNat : Int)) : (convert 22 9 (.slice (some ⟨wx.heap.size, 0, none⟩) 1 1)).run Try.prog (wx.alloc (.cells #[.int .u8 v] 5)) = .ok (.string ⟨#[c]⟩) (wx.alloc (.cells #[.int .u8 v] 5)) :=
  str_of (P := Try.prog) (Rb.one (c := c) rfl hv) 22 5 9 Try.underlying22 Try.underlying5 Try.underlying9 1 1 rfl

theorem bs_append (a b : List UInt8) : bs a ++ bs b = bs (a ++ b) := by
  have h : (bs a ++ bs b).data = (bs (a ++ b)).data := by simp [bs]
  cases h1 : bs a ++ bs b with
  | mk d1 => rw [h1] at h; cases h2 : bs (a ++ b) with
    | mk d2 => rw [h2] at h; simp at h; rw [h]

/-- The decimals of a number; none of 0. -/
def mk10 (r : Nat) : List UInt8 := if r = 0 then [] else decB r
theorem decB_mk (n : Nat) : decB n = mk10 (n / 10) ++ [UInt8.ofNat (n % 10 + 48)] := by
  unfold mk10 decB
  by_cases h : n < 10
  · rw [dg_small h, Nat.div_eq_of_lt h, Nat.mod_eq_of_lt h]; rfl
  · have : n / 10 ≠ 0 := by have := Nat.div_pos (by omega : 10 ≤ n) (by omega); omega
    rw [dg_big (by omega) h, if_neg this, List.map_append]; rfl

set_option maxHeartbeats 1000000 in
theorem rdec_ok (n : Nat) (w : World) (h1 : n ≤ 1099511627776) :
    Calls Try.prog 21 #[.int .i64 n] w fun e w' => e = .returned (.string (bs (decB n))) ∧ Below w.heap.size w w' := by
  have hm := Nat.mod_lt n (by omega : 10 > 0)
  obtain ⟨R, hR⟩ : ∃ R, R = decB n := ⟨_, rfl⟩
  rw [← hR]
  have HR := Lib.hid (hR.trans (decB_mk n))
  have hlen : R.length ≤ 140737488355328 := by rw [hR]; exact decB_len n h1
  clear hR
  obtain ⟨S1, hS1⟩ : ∃ S, S = bs [UInt8.ofNat (n % 10 + 48)] := ⟨_, rfl⟩
  have hs1 : (convert 22 9 (.slice (some ⟨w.heap.size, 0, none⟩) 1 1)).run Try.prog (w.alloc (.cells #[.int .u8 (48 + (n : Int) % 10)] 5)) = .ok (.string S1) (w.alloc (.cells #[.int .u8 (48 + (n : Int) % 10)] 5)) := by
    rw [hS1]
    exact str_one (wx := w) (c := UInt8.ofNat (n % 10 + 48)) (v := 48 + (n : Int) % 10) (by rw [u8_ofNat _ (by omega)]; omega)
  have HS1 := Lib.hid hS1
  clear hS1
  go_enter Try.func21, Try.ntmps21
  go_wp2_with fail
  clear hs1
  go_loopw [0, 3] (fun v0 v3 wr => ∃ (r : Nat) (t : List UInt8) (S : ByteArray), v0 = .int .i64 r ∧ r ≤ 1099511627776 ∧ v3 = .string S ∧ Hid (S = bs t) ∧ Hid (R = mk10 r ++ t) ∧ Below w.heap.size w wr) (fun v0 _ _ => (intOf v0).toNat)
  case atStart => exact ⟨n / 10, [UInt8.ofNat (n % 10 + 48)], S1, by go_num, Nat.le_trans (Nat.div_le_self _ _) h1, rfl, HS1, HR, by go_grown⟩
  case round =>
    obtain ⟨r, t, S, rfl, hr, rfl, HS, HE, hbel⟩ := hrel
    by_cases hz : 0 < r
    · have hm2 := Nat.mod_lt r (by omega : 10 > 0)
      obtain ⟨S2, hS2⟩ : ∃ S, S = bs [UInt8.ofNat (r % 10 + 48)] := ⟨_, rfl⟩
      have hs2 : (convert 22 9 (.slice (some ⟨wr.heap.size, 0, none⟩) 1 1)).run Try.prog (wr.alloc (.cells #[.int .u8 (48 + (r : Int) % 10)] 5)) = .ok (.string S2) (wr.alloc (.cells #[.int .u8 (48 + (r : Int) % 10)] 5)) := by
        rw [hS2]
        exact str_one (wx := wr) (c := UInt8.ofNat (r % 10 + 48)) (v := 48 + (r : Int) % 10) (by rw [u8_ofNat _ (by omega)]; omega)
      have hE2 : R = mk10 (r / 10) ++ (UInt8.ofNat (r % 10 + 48) :: t) := by rw [HE.out, mk10, if_neg (by omega), decB_mk r, List.append_assoc]; rfl
      have z1 : S2.size ≤ 1 := by rw [hS2, bs_size]; simp
      have z2 : S.size ≤ 140737488355328 := by
        have h3 := congrArg List.length hE2
        rw [List.length_append, List.length_cons] at h3
        rw [HS.out, bs_size]; omega
      have HE2 := Lib.hid hE2
      have HS2 := Lib.hid hS2
      clear hE2 hS2
      go_wp2
      go_roundw
      case rel =>
        refine ⟨r / 10, UInt8.ofNat (r % 10 + 48) :: t, _, by go_num, Nat.le_trans (Nat.div_le_self _ _) hr, rfl, Lib.hid ?_, HE2, hbel.alloc hbel.size _⟩
        rw [HS.out, HS2.out, bs_append]; rfl
      case measure => simp [intOf]; omega
    · have hr0 : r = 0 := by omega
      have HRt := Lib.hid (show R = t by rw [HE.out, hr0]; rfl)
      clear hr0
      go_wp2
      go_ret
      exact ⟨by rw [HRt.out, HS.out]; rfl, hbel⟩

set_option maxHeartbeats 1000000 in
theorem rread_ok (A : Option Addr) (l : List UInt8) (n c : Nat) (w : World) (h : Rb w w.heap.size A l) (hl : l.length ≤ 140737488355328) (hn : l.length = n) (hc : n ≤ c) (hc2 : c ≤ 9223372036854775807) :
    Calls Try.prog 13 #[.slice A n c] w fun e w' => e = readE (readS l) ∧ w = w' := by
  subst hn
  cases l with
  | nil =>
    go_enter Try.func13, Try.ntmps13
    go_wp2
    go_ret3
    exact ⟨rfl, rfl⟩
  | cons b r =>
    rcases h with h | ⟨g, o, rfl, hg, hcell⟩
    · cases h
    · have c0 : w.cell? ⟨g, o, none⟩ = some (.int .u8 (b.toNat : Int)) := by
        have := hcell 0 (by simp)
        simpa using this
      obtain ⟨m, hm⟩ : ∃ m, m = b.toNat := ⟨_, rfl⟩
      have hm2 : m < 256 := by rw [hm]; exact b.toNat_lt
      have HR := Lib.hid (show readS (b :: r) = if m ≤ r.length then some (r.take m) else none by rw [hm]; rfl)
      have HRB := Lib.hid (show m ≤ r.length → Rb w w.heap.size (some ⟨g, o + 1, none⟩) (r.take m) from fun hmr => .inr ⟨g, o + 1, rfl, hg, fun i hi => by
        have hi2 : i < r.length := by rw [List.length_take] at hi; omega
        have := hcell (i + 1) (by simp; omega)
        rw [show o + 1 + i = o + (i + 1) by omega, this]
        simp⟩)
      rw [← hm] at c0
      obtain ⟨R, hR⟩ : ∃ R, R = readS (b :: r) := ⟨_, rfl⟩
      rw [← hR] at HR ⊢
      obtain ⟨L, hL⟩ : ∃ L, L = r.length := ⟨_, rfl⟩
      have HL := Lib.hid hL
      have b0 : ((L : Int) + 1 == 0) = false := by simp; omega
      have hLc : L + 1 ≤ c := by rw [hL]; simpa using hc
      have hL2 : L ≤ 140737488355328 := by rw [hL]; simp at hl; omega
      have e1 : (b :: r).length = L + 1 := by rw [hL]; rfl
      rw [e1]
      clear hm hR hL hcell e1 hl hc
      by_cases hmr : m ≤ L
      · have b2 : decide (L < m) = false := by simp; omega
        by_cases hc1 : c = 1
        · have hm0 : m = 0 := by omega
          have hL0 : L = 0 := by omega
          have hRs := Lib.hid (show R = some [] by rw [HR.out, if_pos (by rw [← HL.out]; exact hmr), hm0]; rfl)
          have hst := str_of (P := Try.prog) (Rb.nil w 0 (some ⟨g, o, none⟩)) 22 5 9 Try.underlying22 Try.underlying5 Try.underlying9 0 0 rfl
          subst hc1; subst hm0; subst hL0
          go_enter Try.func13, Try.ntmps13
          go_wp2
          go_ret3
          exact ⟨by rw [hRs.out]; rfl, rfl⟩
        · have hst := str_of (P := Try.prog) (HRB.out (by rw [← HL.out]; exact hmr)) 22 5 9 Try.underlying22 Try.underlying5 Try.underlying9 m (c - 1) (by rw [List.length_take, ← HL.out]; omega)
          have hRs := Lib.hid (show R = some (r.take m) by rw [HR.out, if_pos (by rw [← HL.out]; exact hmr)])
          have HLt := Lib.hid (show (r.take m).length = m by rw [List.length_take, ← HL.out]; omega)
          generalize r.take m = tl at hst hRs HLt
          go_enter Try.func13, Try.ntmps13
          go_wp2
          go_ret3
          exact ⟨by rw [hRs.out, readE, HLt.out, Int.add_comm]; rfl, rfl⟩
      · have hRs := Lib.hid (show R = none by rw [HR.out, if_neg (by rw [← HL.out]; exact hmr)])
        go_enter Try.func13, Try.ntmps13
        go_wp2
        go_ret3
        exact ⟨by rw [hRs.out]; rfl, rfl⟩

end Go.Proofs.Ytmonemmeccgldaa
