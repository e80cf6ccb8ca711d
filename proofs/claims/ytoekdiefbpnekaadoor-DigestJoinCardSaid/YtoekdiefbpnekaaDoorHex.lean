/- Hex: bytes in digits. -/
import Derived.Test.YtoekdiefbpnekaaDoorHexMath
import Derived.Test.YtoekdiefbpnekaaDoorBuild
import Derived.Test.YtoekdiefbpnekaaDoorShelf
namespace Go.Proofs.YtoekdiefbpnekaaDoor
set_option linter.unusedVariables false
set_option linter.unusedSimpArgs false
open Go.RowKit

def digS : ByteArray := ⟨#[48, 49, 50, 51, 52, 53, 54, 55, 56, 57, 97, 98, 99, 100, 101, 102]⟩
theorem digS_at (q : Nat) (h : q < 16) (hs : q < digS.size) : digS[q] = dig q := by
  have : ∀ m : Fin 16, ∀ h : m.val < digS.size, digS[m.val] = dig m.val := by decide
  exact this ⟨q, h⟩ hs
theorem idx_dig (q : Nat) (h : q < 16) (k : IntKind) (u : World) : (Instr.index 9 (.string digS) (.int k (q : Int))).run Tryd.prog u = .ok (.int .u8 ((dig q).toNat : Int)) u := by
  have hs : digS.size = 16 := rfl
  rw [run_index_string u 9 digS k (q : Int) Tryd.underlying9, dif_pos (by rw [hs]; omega)]
  have e : digS[(q : Int).toNat]'(by rw [hs]; omega) = dig q := digS_at q h (by rw [hs]; exact h)
  rw [e]

set_option maxHeartbeats 1000000 in
theorem hex_ok (A : Option Addr) (n c : Nat) (l : List UInt8) (w : World) (hl : l.length = n) (hn : n ≤ 1099511627776) (hR : Rb w w.heap.size A l) :
    Calls Tryd.prog 17 #[.slice A n c] w fun e w' => e = .returned (.string ⟨(hexB l).toArray⟩) ∧ Below w.heap.size w w' := by
  have HL := Lib.hid hl
  have HR := Lib.hid hR
  clear hl hR
  obtain ⟨n2, hn2⟩ : ∃ k, k = 2 * n := ⟨_, rfl⟩
  have y1 : 2 * (n : Int) = (n2 : Int) := by omega
  have hn3 : n2 ≤ 281474976710656 := by omega
  clear hn2
  go_enter Tryd.func17, Tryd.ntmps17
  go_wp2_with fail
  refine (Tryd.Builder_Grow_fresh_cap w.heap.size w.heap.size n2 _ (Nat.le_refl _) (heap_alloc_new w _) ?_ (by omega)).mono ?_
  · show _ ≤ (w.heap.push _).size; rw [Array.size_push]; omega
  rintro e w1 ⟨rfl, ⟨hB1, hb1⟩, _⟩
  have HB1 := Lib.hid (show Bd w.heap.size w.heap.size (hexB (l.take 0)) w1 from hB1)
  have Hb1 := Lib.hid (show Below w.heap.size w w1 from (show Below w.heap.size w (w.alloc _) by go_grown).trans hb1)
  clear hB1 hb1 y1 hn3
  go_wp2_with fail
  go_loopw [12] (fun v12 wr => ∃ i : Nat, i ≤ n ∧ v12 = .int .i64 i ∧ Hid (Bd w.heap.size w.heap.size (hexB (l.take i)) wr) ∧ Hid (Below w.heap.size w wr)) (fun v12 _ => n - (intOf v12).toNat)
  case atStart => exact ⟨0, by omega, rfl, HB1, Hb1⟩
  case round =>
    obtain ⟨i, hi, rfl, HB, HBB⟩ := hrel
    clear HB1 Hb1
    by_cases hi1 : i < n
    · have hil : i < l.length := by rw [HL.out]; exact hi1
      obtain ⟨b, o, rfl, hb, hc⟩ : ∃ b o, A = some ⟨b, o, none⟩ ∧ b < w.heap.size ∧ wr.cell? ⟨b, o + i, none⟩ = some (.int .u8 ((l[i]).toNat : Int)) := by
        rcases HR.out with h | ⟨b, o, e, hb, hc⟩
        · subst h; simp at hil
        · exact ⟨b, o, e, hb, (HBB.out.cell (p := ⟨b, o + i, none⟩) hb).trans (hc i hil)⟩
      have HT := Lib.hid (hexB_take l i hil)
      have hlt := (l[i]).toNat_lt
      obtain ⟨x, hx⟩ : ∃ x, x = (l[i]).toNat := ⟨_, rfl⟩
      rw [← hx] at hc HT hlt
      clear hx
      obtain ⟨q, hq⟩ : ∃ q, q = x / 16 := ⟨_, rfl⟩
      obtain ⟨r, hr⟩ : ∃ r, r = x % 16 := ⟨_, rfl⟩
      have e1 : (x : Int) / 16 = (q : Int) := by omega
      have e2 : (x : Int) % 16 = (r : Int) := by omega
      have e3 : (q : Int) % 256 = (q : Int) := by omega
      have e4 : (r : Int) % 256 = (r : Int) := by omega
      have HQ := Lib.hid (show q < 16 by omega)
      have HRR := Lib.hid (show r < 16 by omega)
      rw [← hq, ← hr] at HT
      have HLEN := Lib.hid (show (hexB (l.take i)).length + 2 ≤ 140737488355328 by rw [hexB_len, List.length_take]; omega)
      have HSZ := Lib.hid HBB.out.size
      clear hq hr hlt
      go_wp2_with (refine wpList_index rfl 9 (.const (.string digS)) (.tmp 17) rfl _ _ _ rfl rfl (idx_dig q HQ.out _ _) ?_)
      refine (wbyte_ok w.heap.size w.heap.size _ (dig q) _ HB.out (by have := HLEN.out; omega) HSZ.out).mono ?_
      rintro e w2 ⟨rfl, hB2, hb2⟩
      have HB2 := Lib.hid hB2
      have HBB2 := Lib.hid (HBB.out.trans hb2)
      have HSZ2 := Lib.hid HBB2.out.size
      clear hB2 hb2
      go_wp2_with (refine wpList_index rfl 9 (.const (.string digS)) (.tmp 21) rfl _ _ (.int .u8 ((dig r).toNat : Int)) rfl rfl (by first | exact idx_dig r HRR.out _ _ | (rw [e2]; exact idx_dig r HRR.out _ _) | (rw [e2, e4]; exact idx_dig r HRR.out _ _)) ?_)
      refine (wbyte_ok w.heap.size w.heap.size _ (dig r) _ HB2.out (by have := HLEN.out; rw [List.length_append, List.length_singleton]; omega) HSZ2.out).mono ?_
      rintro e w3 ⟨rfl, hB3, hb3⟩
      have HB3 := Lib.hid (show Bd w.heap.size w.heap.size (hexB (l.take (i + 1))) w3 by rw [HT.out]; exact hB3)
      have HBB3 := Lib.hid (HBB2.out.trans hb3)
      clear hB3 hb3
      go_wp2_with fail
      go_roundw
      case rel => exact ⟨i + 1, by omega, by go_num, HB3, HBB3⟩
      case measure => simp [intOf]; omega
    · have HI := Lib.hid (show l.take i = l by rw [List.take_of_length_le]; rw [HL.out]; omega)
      go_wp2_with fail
      refine (Tryd.Builder_String_any w.heap.size w.heap.size (hexB l) _ (Or.inr (by have := HB.out; rw [HI.out] at this; exact this)) HBB.out.size).mono ?_
      rintro e w2 ⟨rfl, hb2⟩
      go_wp2_with fail
      go_ret
      exact ⟨rfl, HBB.out.trans hb2⟩
end Go.Proofs.YtoekdiefbpnekaaDoor
