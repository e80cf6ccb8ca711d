/- The document's own: Dots: its contract. (Written by gen_sref.py.) -/
import Derived.Test.YtmdijhfkobcbjaaSyn8
import Derived.Test.YtmdijhfkobcbjaaRefDec
namespace Go.Proofs.Ytmdijhfkobcbjaa
set_option linter.unusedVariables false
set_option linter.unusedSimpArgs false
open Go.RowKit

def preD (a k : Nat) : List UInt8 := (List.range k).flatMap fun j => decB (qB a j) ++ (if j < 3 then [46] else [])
theorem preD_succ (a k : Nat) : preD a (k + 1) = preD a k ++ (decB (qB a k) ++ (if k < 3 then [46] else [])) := by
  unfold preD
  rw [List.range_succ, List.flatMap_append]
  simp
theorem preD_all (a : Nat) (ha : a < 4294967296) : preD a 4 = dotsB a := by
  rw [dotsB_q a ha]
  simp [preD, List.range, List.range.loop, joinL]
def ik : Nat → Int
  | 0 => 3
  | 1 => 2
  | 2 => 1
  | 3 => 0
  | _ => -1

set_option maxHeartbeats 2000000 in
theorem rdots_ok (a : Nat) (w : World) (ha : a < 4294967296) :
    Calls Try.prog 18 #[.int .u32 a] w fun e w' => e = .returned (.string (bs (dotsB a))) ∧ Below w.heap.size w w' := by
  obtain ⟨R, hR⟩ : ∃ R, bs (preD a 4) = R := ⟨_, rfl⟩
  rw [← preD_all a ha, hR]
  have HR := Lib.hid hR
  clear hR
  have HD0 := Lib.hid (show ∀ u, Calls Try.prog 33 #[.int .i64 ((a : Int) / 16777216 % 256)] u fun e w' => e = .returned (.string (bs (decB (qB a 0)))) ∧ Below u.heap.size u w' from fun u => by
    have e : ((a : Int) / 16777216 % 256) = ((qB a 0 : Nat) : Int) := by unfold qB; simp
    rw [e]
    exact rdec_ok (qB a 0) u (by unfold qB; omega))
  have HD1 := Lib.hid (show ∀ u, Calls Try.prog 33 #[.int .i64 ((a : Int) / 65536 % 256)] u fun e w' => e = .returned (.string (bs (decB (qB a 1)))) ∧ Below u.heap.size u w' from fun u => by
    have e : ((a : Int) / 65536 % 256) = ((qB a 1 : Nat) : Int) := by unfold qB; simp
    rw [e]
    exact rdec_ok (qB a 1) u (by unfold qB; omega))
  have HD2 := Lib.hid (show ∀ u, Calls Try.prog 33 #[.int .i64 ((a : Int) / 256 % 256)] u fun e w' => e = .returned (.string (bs (decB (qB a 2)))) ∧ Below u.heap.size u w' from fun u => by
    have e : ((a : Int) / 256 % 256) = ((qB a 2 : Nat) : Int) := by unfold qB; simp
    rw [e]
    exact rdec_ok (qB a 2) u (by unfold qB; omega))
  have HD3 := Lib.hid (show ∀ u, Calls Try.prog 33 #[.int .i64 ((a : Int) % 256)] u fun e w' => e = .returned (.string (bs (decB (qB a 3)))) ∧ Below u.heap.size u w' from fun u => by
    have e : ((a : Int) % 256) = ((qB a 3 : Nat) : Int) := by unfold qB; simp
    rw [e]
    exact rdec_ok (qB a 3) u (by unfold qB; omega))
  go_enter Try.func18, Try.ntmps18
  go_wp2_with fail
  go_loopw [3, 4] (fun v3 v4 wr => ∃ (k : Nat) (S : ByteArray), k ≤ 4 ∧ v4 = .int .i64 (ik k) ∧ v3 = .string S ∧ Hid (S = bs (preD a k)) ∧ S.size ≤ 4 * k ∧ Below w.heap.size w wr) (fun _ v4 _ => (intOf v4 + 1).toNat)
  case atStart => exact ⟨0, ⟨#[]⟩, by omega, rfl, rfl, Lib.hid rfl, by decide, Below.refl _ _⟩
  case round =>
    obtain ⟨k, S, hk, rfl, rfl, HS, hz, hbel⟩ := hrel
    match k, hk with
    | 0, _ =>
      simp only [ik]
      obtain ⟨d, hd⟩ : ∃ d, bs (decB (qB a 0)) = d := ⟨_, rfl⟩
      have hdz : d.size ≤ 3 := by rw [← hd, bs_size]; exact dec_len3 _ (by unfold qB; omega)
      have HD := Lib.hid (show ∀ u, Calls Try.prog 33 #[.int .i64 ((a : Int) / 16777216 % 256)] u fun e w' => e = .returned (.string d) ∧ Below u.heap.size u w' from fun u => by rw [← hd]; exact HD0.out u)
      have HN := Lib.hid (show S ++ d ++ ⟨#[46]⟩ = bs (preD a (0 + 1)) by
        rw [HS.out, ← hd, preD_succ a 0, bs_append]
        rw [show (⟨#[46]⟩ : ByteArray) = bs [46] from rfl, bs_append, List.append_assoc]; rfl)
      have HNZ := Lib.hid (show (S ++ d ++ ⟨#[46]⟩).size ≤ 4 * (0 + 1) by (have h46 : (⟨#[46]⟩ : ByteArray).size = 1 := rfl); simp only [ByteArray.size_append, h46]; omega)
      clear hd
      go_wp2_with (go_at_call 33; refine (HD.out _).mono ?_; rintro e w2 ⟨rfl, hb2⟩)
      go_roundw
      case rel => exact ⟨0 + 1, S ++ d ++ ⟨#[46]⟩, by omega, rfl, rfl, HN, HNZ.out, hbel.trans (hb2.mono hbel.size)⟩
      case measure => decide
    | 1, _ =>
      simp only [ik]
      obtain ⟨d, hd⟩ : ∃ d, bs (decB (qB a 1)) = d := ⟨_, rfl⟩
      have hdz : d.size ≤ 3 := by rw [← hd, bs_size]; exact dec_len3 _ (by unfold qB; omega)
      have HD := Lib.hid (show ∀ u, Calls Try.prog 33 #[.int .i64 ((a : Int) / 65536 % 256)] u fun e w' => e = .returned (.string d) ∧ Below u.heap.size u w' from fun u => by rw [← hd]; exact HD1.out u)
      have HN := Lib.hid (show S ++ d ++ ⟨#[46]⟩ = bs (preD a (1 + 1)) by
        rw [HS.out, ← hd, preD_succ a 1, bs_append]
        rw [show (⟨#[46]⟩ : ByteArray) = bs [46] from rfl, bs_append, List.append_assoc]; rfl)
      have HNZ := Lib.hid (show (S ++ d ++ ⟨#[46]⟩).size ≤ 4 * (1 + 1) by (have h46 : (⟨#[46]⟩ : ByteArray).size = 1 := rfl); simp only [ByteArray.size_append, h46]; omega)
      clear hd
      go_wp2_with (go_at_call 33; refine (HD.out _).mono ?_; rintro e w2 ⟨rfl, hb2⟩)
      go_roundw
      case rel => exact ⟨1 + 1, S ++ d ++ ⟨#[46]⟩, by omega, rfl, rfl, HN, HNZ.out, hbel.trans (hb2.mono hbel.size)⟩
      case measure => decide
    | 2, _ =>
      simp only [ik]
      obtain ⟨d, hd⟩ : ∃ d, bs (decB (qB a 2)) = d := ⟨_, rfl⟩
      have hdz : d.size ≤ 3 := by rw [← hd, bs_size]; exact dec_len3 _ (by unfold qB; omega)
      have HD := Lib.hid (show ∀ u, Calls Try.prog 33 #[.int .i64 ((a : Int) / 256 % 256)] u fun e w' => e = .returned (.string d) ∧ Below u.heap.size u w' from fun u => by rw [← hd]; exact HD2.out u)
      have HN := Lib.hid (show S ++ d ++ ⟨#[46]⟩ = bs (preD a (2 + 1)) by
        rw [HS.out, ← hd, preD_succ a 2, bs_append]
        rw [show (⟨#[46]⟩ : ByteArray) = bs [46] from rfl, bs_append, List.append_assoc]; rfl)
      have HNZ := Lib.hid (show (S ++ d ++ ⟨#[46]⟩).size ≤ 4 * (2 + 1) by (have h46 : (⟨#[46]⟩ : ByteArray).size = 1 := rfl); simp only [ByteArray.size_append, h46]; omega)
      clear hd
      go_wp2_with (go_at_call 33; refine (HD.out _).mono ?_; rintro e w2 ⟨rfl, hb2⟩)
      go_roundw
      case rel => exact ⟨2 + 1, S ++ d ++ ⟨#[46]⟩, by omega, rfl, rfl, HN, HNZ.out, hbel.trans (hb2.mono hbel.size)⟩
      case measure => decide
    | 3, _ =>
      simp only [ik]
      obtain ⟨d, hd⟩ : ∃ d, bs (decB (qB a 3)) = d := ⟨_, rfl⟩
      have hdz : d.size ≤ 3 := by rw [← hd, bs_size]; exact dec_len3 _ (by unfold qB; omega)
      have HD := Lib.hid (show ∀ u, Calls Try.prog 33 #[.int .i64 ((a : Int) % 256)] u fun e w' => e = .returned (.string d) ∧ Below u.heap.size u w' from fun u => by rw [← hd]; exact HD3.out u)
      have HN := Lib.hid (show S ++ d = bs (preD a (3 + 1)) by
        rw [HS.out, ← hd, preD_succ a 3, bs_append]
        rw [if_neg (by omega), List.append_nil])
      have HNZ := Lib.hid (show (S ++ d).size ≤ 4 * (3 + 1) by (have h46 : (⟨#[46]⟩ : ByteArray).size = 1 := rfl); simp only [ByteArray.size_append, h46]; omega)
      clear hd
      go_wp2_with (go_at_call 33; refine (HD.out _).mono ?_; rintro e w2 ⟨rfl, hb2⟩)
      go_roundw
      case rel => exact ⟨3 + 1, S ++ d, by omega, rfl, rfl, HN, HNZ.out, hbel.trans (hb2.mono hbel.size)⟩
      case measure => decide
    | 4, _ =>
      simp only [ik]
      have HF := Lib.hid (HS.out.trans HR.out)
      go_wp2
      go_ret
      exact ⟨by rw [← HF.out]; rfl, hbel⟩
    | m + 5, h => omega
end Go.Proofs.Ytmdijhfkobcbjaa
