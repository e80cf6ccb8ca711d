/- syntax.Dots: its contract. -/
import Derived.Test.YtmdijhfkobcbjaaSynM
import Derived.Test.YtmdijhfkobcbjaaShelf
import Derived.Test.YtmdijhfkobcbjaaDeci
namespace Go.Proofs.Ytmdijhfkobcbjaa
set_option linter.unusedVariables false
set_option linter.unusedSimpArgs false
open Go.RowKit

def qB (a i : Nat) : Nat := a / 256 ^ (3 - i) % 256
def qcells (a i : Nat) : Array Value := ((List.range 4).map fun j => Value.string (bs (if j < i then decB (qB a j) else []))).toArray
theorem qcells_set (a i : Nat) (h : i < 4) : (qcells a i).setIfInBounds i (.string (bs (decB (qB a i)))) = qcells a (i + 1) := by
  apply Array.ext
  · simp [qcells]
  · intro j h1 h2
    have hj : j < 4 := by simpa [qcells] using h2
    rw [Array.getElem_setIfInBounds (by simpa [qcells] using hj)]
    by_cases he : i = j
    · subst he; simp [qcells]
    · rw [if_neg he]
      have : (j < i) ↔ (j < i + 1) := by omega
      simp [qcells, this]
theorem qcells_at (a i j : Nat) (h : j < 4) : (qcells a i)[j]? = some (.string (bs (if j < i then decB (qB a j) else []))) := by simp [qcells, h]
theorem q_step (a i : Nat) (ha : a < 4294967296) (h : i < 4) : a * 256 ^ i % 4294967296 / 16777216 = qB a i := by
  unfold qB
  match i, h with
  | 0, _ => simp; omega
  | 1, _ => simp; omega
  | 2, _ => simp; omega
  | 3, _ => simp; omega
theorem dotsB_q (a : Nat) (ha : a < 4294967296) : dotsB a = joinL 46 [decB (qB a 0), decB (qB a 1), decB (qB a 2), decB (qB a 3)] := by
  unfold dotsB qB
  simp only [Nat.sub_zero, Nat.reducePow, Nat.reduceSub, Nat.div_one, Nat.pow_zero]
theorem dec_len3 (n : Nat) (h : n < 256) : (decB n).length ≤ 3 := by
  by_cases h1 : n < 10
  · rw [decB_length n 1 (by omega) (by omega) (.inl rfl)]; omega
  · by_cases h2 : n < 100
    · rw [decB_length n 2 (by omega) (by omega) (.inr (by omega))]; omega
    · rw [decB_length n 3 (by omega) (by omega) (.inr (by omega))]; omega
theorem dots_len (a : Nat) : (dotsB a).length ≤ 15 := by
  unfold dotsB
  simp only [joinL, List.length_append, List.length_cons]
  have h1 := dec_len3 (a / 16777216 % 256) (by omega)
  have h2 := dec_len3 (a / 65536 % 256) (by omega)
  have h3 := dec_len3 (a / 256 % 256) (by omega)
  have h4 := dec_len3 (a % 256) (by omega)
  omega

set_option maxHeartbeats 1000000 in
theorem dots_ok (a : Nat) (w : World) (ha : a < 4294967296) :
    Calls Try.prog 17 #[.int .u32 a] w fun e w' => e = .returned (.string (bs (dotsB a))) ∧ Below w.heap.size w w' := by
  obtain ⟨R, hR⟩ : ∃ R, R = bs (dotsB a) := ⟨_, rfl⟩
  rw [← hR]
  have HR := Lib.hid hR
  clear hR
  have HQ0 := Lib.hid (show qcells a 0 = #[.string ⟨#[]⟩, .string ⟨#[]⟩, .string ⟨#[]⟩, .string ⟨#[]⟩] from rfl)
  go_enter Try.func17, Try.ntmps17
  go_wp2_with fail
  go_loopw [0, 5] (fun v0 v5 wr => ∃ (i x : Nat), i ≤ 4 ∧ v5 = .int .i64 i ∧ x < 4294967296 ∧ v0 = .int .u32 x ∧ Hid (x = a * 256 ^ i % 4294967296) ∧ Hid (Bk wr w.heap.size 55 (qcells a i)) ∧ Below w.heap.size w wr) (fun _ v5 _ => 4 - (intOf v5).toNat)
  case atStart => exact ⟨0, a, by omega, rfl, ha, rfl, Lib.hid (by simp; omega), Lib.hid (by rw [HQ0.out]; exact Bk.new _ _ _), (Below.refl _ _).alloc (Nat.le_refl _) _⟩
  case round =>
    obtain ⟨i, x, hi, rfl, hx, rfl, HX, HK, hbel⟩ := hrel
    by_cases hlt : i < 4
    · have HD := Lib.hid (show ∀ u, Calls Try.prog 31 #[.int .i64 ((x : Int) / 16777216)] u fun e w' => e = .returned (.string (bs (decB (qB a i)))) ∧ Below u.heap.size u w' from fun u => by
        have e1 : x / 16777216 = qB a i := by rw [HX.out]; exact q_step a i ha hlt
        have e2 : ((x : Int) / 16777216) = ((qB a i : Nat) : Int) := by rw [← e1]; simp
        rw [e2]
        exact dec_ok (qB a i) u (by unfold qB; omega))
      have HX2 := Lib.hid (show x * 256 % 4294967296 = a * 256 ^ (i + 1) % 4294967296 by rw [HX.out, Nat.pow_succ, ← Nat.mul_assoc, Nat.mod_mul_mod])
      obtain ⟨d, hd⟩ : ∃ d, bs (decB (qB a i)) = d := ⟨_, rfl⟩
      rw [hd] at HD
      have HDD := Lib.hid hd
      have hi4 : (i : Int) < 4 := by omega
      clear hd
      go_wp2_with (go_at_call 31; refine (HD.out _).mono ?_; rintro e w2 ⟨rfl, hb2⟩; have hk2 := HK.out.below hb2 HK.out.lt; have hc2 : w2.cell? ⟨w.heap.size, i, none⟩ = some (.string (bs (if i < i then decB (qB a i) else []))) := (by rw [hk2.cell]; exact qcells_at a i i hlt); have hf2 := hk2.frozen i)
      go_roundw
      case rel =>
        refine ⟨i + 1, x * 256 % 4294967296, by omega, by go_num, Nat.mod_lt _ (by omega), by go_num, HX2, Lib.hid ?_, (hbel.trans (hb2.mono hbel.size)).setCell (p := ⟨w.heap.size, i, none⟩) (Nat.le_refl _) _⟩
        have := hk2.set i (.string d)
        rw [← HDD.out, qcells_set a i hlt] at this
        rw [← HDD.out]
        exact this
      case measure => simp [intOf]; omega
    · obtain rfl : i = 4 := by omega
      have HJ := Lib.hid (show Calls Try.prog 32 #[.slice (some ⟨w.heap.size, 0, none⟩) 4 4, .string ⟨#[46]⟩] wr fun e w' => e = .returned (.string R) ∧ Below wr.heap.size wr w' by
        have hj := Try.strings_Join w.heap.size 0 4 [bs (decB (qB a 0)), bs (decB (qB a 1)), bs (decB (qB a 2)), bs (decB (qB a 3))] ⟨#[46]⟩ wr
          (fun j x hx => by
            have hj4 : j < 4 := by have := (List.getElem?_eq_some_iff.1 hx).1; simpa using this
            rw [Nat.zero_add, HK.out.cell, qcells_at a 4 j hj4, if_pos hj4]
            match j, hj4 with
            | 0, _ => simpa using hx
            | 1, _ => simpa using hx
            | 2, _ => simpa using hx
            | 3, _ => simpa using hx)
          HK.out.lt (by simp) (by simp)
        have hjl : Go.Lib.join ([bs (decB (qB a 0)), bs (decB (qB a 1)), bs (decB (qB a 2)), bs (decB (qB a 3))].map (·.data.toList)) (⟨#[46]⟩ : ByteArray).data.toList = dotsB a := by
          rw [dotsB_q a ha]
          simp only [List.map_cons, List.map_nil, bs_data]
          simp [Go.Lib.join, List.intercalate, joinL]
        rw [hjl] at hj
        have := hj (by have := dots_len a; omega)
        rw [HR.out]
        exact this)
      go_wp2_with (go_at_call 32; refine HJ.out.mono ?_; rintro e w2 ⟨rfl, hb2⟩)
      go_ret
      exact ⟨rfl, hbel.trans (hb2.mono hbel.size)⟩
end Go.Proofs.Ytmdijhfkobcbjaa
