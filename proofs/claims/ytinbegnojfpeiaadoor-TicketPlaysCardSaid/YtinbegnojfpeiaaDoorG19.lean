/- StrOne, RefDec: texts of this seat, one behind the other. -/
import Derived.Test.YtinbegnojfpeiaaDoorG5
import Derived.Test.YtinbegnojfpeiaaDoorRows
/- Small texts. -/
namespace Go.Proofs.YtinbegnojfpeiaaDoor
set_option linter.unusedVariables false
set_option maxRecDepth 100000
set_option linter.unusedSimpArgs false
open Go.RowKit

/-- One byte as a text. -/
theorem str_one {wx : World} {c : UInt8} {v : Int} (hv : v = (c.toNat : Int)) : (convert 50 9 (.slice (some ⟨wx.heap.size, 0, none⟩) 1 1)).run Tryd.prog (wx.alloc (.cells #[.int .u8 v] 5)) = .ok (.string ⟨#[c]⟩) (wx.alloc (.cells #[.int .u8 v] 5)) :=
  str_of (P := Tryd.prog) (Rb.one (c := c) rfl hv) 50 5 9 Tryd.underlying50 Tryd.underlying5 Tryd.underlying9 1 1 rfl

theorem bs_append (a b : List UInt8) : bs a ++ bs b = bs (a ++ b) := by
  have h : (bs a ++ bs b).data = (bs (a ++ b)).data := by simp [bs]
  cases h1 : bs a ++ bs b with
  | mk d1 => rw [h1] at h; cases h2 : bs (a ++ b) with
    | mk d2 => rw [h2] at h; simp at h; rw [h]
end Go.Proofs.YtinbegnojfpeiaaDoor

/- The document's answers for numbers: Decimal: its contract. -/
namespace Go.Proofs.YtinbegnojfpeiaaDoor
set_option linter.unusedVariables false
set_option maxRecDepth 100000
set_option linter.unusedSimpArgs false
open Go.RowKit

/-- The decimals of a number; none of 0. -/
def mk10 (r : Nat) : List UInt8 := if r = 0 then [] else decB r
theorem decB_mk (n : Nat) : decB n = mk10 (n / 10) ++ [UInt8.ofNat (n % 10 + 48)] := by
  unfold mk10 decB
  by_cases h : n < 10
  · rw [dg_small h, Nat.div_eq_of_lt h, Nat.mod_eq_of_lt h]; rfl
  · have : n / 10 ≠ 0 := by have := Nat.div_pos (by omega : 10 ≤ n) (by omega); omega
    rw [dg_big (by omega) h, if_neg this, List.map_append]; rfl

set_option maxRecDepth 100000 in
set_option maxHeartbeats 1000000 in
theorem rdec_ok (n : Nat) (w : World) (h1 : n ≤ 1099511627776) :
    Calls Tryd.prog 28 #[.int .i64 n] w fun e w' => e = .returned (.string (bs (decB n))) ∧ Below w.heap.size w w' := by
  have hm := Nat.mod_lt n (by omega : 10 > 0)
  obtain ⟨R, hR⟩ : ∃ R, R = decB n := ⟨_, rfl⟩
  rw [← hR]
  have HR := Lib.hid (hR.trans (decB_mk n))
  have hlen : R.length ≤ 140737488355328 := by rw [hR]; exact decB_len n h1
  clear hR
  obtain ⟨S1, hS1⟩ : ∃ S, S = bs [UInt8.ofNat (n % 10 + 48)] := ⟨_, rfl⟩
  have hs1 : (convert 50 9 (.slice (some ⟨w.heap.size, 0, none⟩) 1 1)).run Tryd.prog (w.alloc (.cells #[.int .u8 (48 + (n : Int) % 10)] 5)) = .ok (.string S1) (w.alloc (.cells #[.int .u8 (48 + (n : Int) % 10)] 5)) := by
    rw [hS1]
    exact str_one (wx := w) (c := UInt8.ofNat (n % 10 + 48)) (v := 48 + (n : Int) % 10) (by rw [u8_ofNat _ (by omega)]; omega)
  have HS1 := Lib.hid hS1
  clear hS1
  go_enter Tryd.func28, Tryd.ntmps28
  go_wp2_with fail
  clear hs1
  go_loopw [0, 3] (fun v0 v3 wr => ∃ (r : Nat) (t : List UInt8) (S : ByteArray), v0 = .int .i64 r ∧ r ≤ 1099511627776 ∧ v3 = .string S ∧ Hid (S = bs t) ∧ Hid (R = mk10 r ++ t) ∧ Below w.heap.size w wr) (fun v0 _ _ => (intOf v0).toNat)
  case atStart => exact ⟨n / 10, [UInt8.ofNat (n % 10 + 48)], S1, by go_num, Nat.le_trans (Nat.div_le_self _ _) h1, rfl, HS1, HR, by go_grown⟩
  case round =>
    obtain ⟨r, t, S, rfl, hr, rfl, HS, HE, hbel⟩ := hrel
    by_cases hz : 0 < r
    · have hm2 := Nat.mod_lt r (by omega : 10 > 0)
      obtain ⟨S2, hS2⟩ : ∃ S, S = bs [UInt8.ofNat (r % 10 + 48)] := ⟨_, rfl⟩
      have hs2 : (convert 50 9 (.slice (some ⟨wr.heap.size, 0, none⟩) 1 1)).run Tryd.prog (wr.alloc (.cells #[.int .u8 (48 + (r : Int) % 10)] 5)) = .ok (.string S2) (wr.alloc (.cells #[.int .u8 (48 + (r : Int) % 10)] 5)) := by
        rw [hS2]
        exact str_one (wx := wr) (c := UInt8.ofNat (r % 10 + 48)) (v := 48 + (r : Int) % 10) (by rw [u8_ofNat _ (by omega)]; omega)
      have hE2 : R = mk10 (r / 10) ++ (UInt8.ofNat (r % 10 + 48) :: t) := by rw [HE.out, mk10, if_neg (by omega), decB_mk r, List.append_assoc]; rfl
      have z1 : S2.size ≤ 1 := by rw [hS2, bs_size]; simp
      have z2 : S.size ≤ 140737488355328 := by
        have h3 := congrArg List.length hE2
        rw [List.length_append, List.length_cons] at h3
        rw [HS.out, bs_size]; omega
      have HE2 := Lib.hid hE2
      have HS2 := Lib.hid hS2
      clear hE2 hS2
      go_wp2
      go_roundw
      case rel =>
        refine ⟨r / 10, UInt8.ofNat (r % 10 + 48) :: t, _, by go_num, Nat.le_trans (Nat.div_le_self _ _) hr, rfl, Lib.hid ?_, HE2, hbel.alloc hbel.size _⟩
        rw [HS.out, HS2.out, bs_append]; rfl
      case measure => simp [intOf]; omega
    · have hr0 : r = 0 := by omega
      have HRt := Lib.hid (show R = t by rw [HE.out, hr0]; rfl)
      clear hr0
      go_wp2
      go_ret
      exact ⟨by rw [HRt.out, HS.out]; rfl, hbel⟩

end Go.Proofs.YtinbegnojfpeiaaDoor
