/- Blocks, Info, PutB: texts of this seat, one behind the other. -/
import Derived.Test.YtinbegnojfpeiaaDoorG2
import Derived.Test.YtinbegnojfpeiaaDoorRows
import Derived.Deep.Cut
import Derived.Deep.CutRange
/- Blocks of a row of bytes: what a part of it has for words. Nothing of the program is named here. -/
namespace Go.Proofs.YtinbegnojfpeiaaDoor
set_option linter.unusedVariables false
set_option maxRecDepth 100000
set_option linter.unusedSimpArgs false
open Go.RowKit

theorem byteAt_part (l : List UInt8) (p j : Nat) (h : j < 64) : byteAt ((l.drop p).take 64) j = byteAt l (p + j) := by
  unfold byteAt
  rw [List.getD, List.getD, List.getElem?_take_of_lt h, List.getElem?_drop]
theorem words16_part (l : List UInt8) (p : Nat) : words16 ((l.drop p).take 64) 0 = words16 l p := by
  unfold words16
  apply List.map_congr_left
  intro i hi
  have hi' : i < 16 := List.mem_range.1 hi
  unfold wordAt
  rw [byteAt_part l p _ (by omega), byteAt_part l p _ (by omega), byteAt_part l p _ (by omega), byteAt_part l p _ (by omega)]
  rw [show p + (0 + 4 * i) = p + 4 * i by omega, show p + (0 + 4 * i + 1) = p + 4 * i + 1 by omega, show p + (0 + 4 * i + 2) = p + 4 * i + 2 by omega, show p + (0 + 4 * i + 3) = p + 4 * i + 3 by omega]
theorem byteAt_left (l r : List UInt8) (j : Nat) (h : j < l.length) : byteAt (l ++ r) j = byteAt l j := by
  unfold byteAt; rw [List.getD, List.getD, List.getElem?_append_left h]
theorem byteAt_right (l r : List UInt8) (j : Nat) : byteAt (l ++ r) (l.length + j) = byteAt r j := by
  unfold byteAt; rw [List.getD, List.getD, List.getElem?_append_right (by omega), Nat.add_sub_cancel_left]
theorem words16_left (l r : List UInt8) (p : Nat) (h : p + 64 ≤ l.length) : words16 (l ++ r) p = words16 l p := by
  unfold words16
  apply List.map_congr_left
  intro i hi
  have hi' : i < 16 := List.mem_range.1 hi
  unfold wordAt
  rw [byteAt_left l r _ (by omega), byteAt_left l r _ (by omega), byteAt_left l r _ (by omega), byteAt_left l r _ (by omega)]
theorem words16_right (l r : List UInt8) (p : Nat) : words16 (l ++ r) (l.length + p) = words16 r p := by
  unfold words16
  apply List.map_congr_left
  intro i hi
  unfold wordAt
  rw [show l.length + p + 4 * i = l.length + (p + 4 * i) by omega, show l.length + (p + 4 * i) + 1 = l.length + (p + 4 * i + 1) by omega, show l.length + (p + 4 * i) + 2 = l.length + (p + 4 * i + 2) by omega, show l.length + (p + 4 * i) + 3 = l.length + (p + 4 * i + 3) by omega]
  rw [byteAt_right, byteAt_right, byteAt_right, byteAt_right]
theorem thr_left (s : St) (l r : List UInt8) : ∀ n, 64 * n ≤ l.length → thr s (l ++ r) n = thr s l n
  | 0, _ => by rw [thr, thr]
  | n + 1, h => by rw [thr, thr, thr_left s l r n (by omega), words16_left l r _ (by omega)]
theorem thr_app (s : St) (l r : List UInt8) (m : Nat) (hl : l.length = 64 * m) : ∀ n, thr s (l ++ r) (m + n) = thr (thr s l m) r n
  | 0 => by rw [Nat.add_zero, thr_left s l r m (by omega), thr]
  | n + 1 => by
    rw [← Nat.add_assoc, thr, thr_app s l r m hl n, thr]
    have e : 64 * (m + n) = l.length + 64 * n := by omega
    rw [e, words16_right]
/-- Of bytes that a slice reads as, 64 from p on. -/
theorem Rb.part {w : World} {B b o p : Nat} {l : List UInt8} (h : Rb w B (some ⟨b, o, none⟩) l) : Rb w B (some ⟨b, o + p, none⟩) ((l.drop p).take 64) := by
  rcases h with h | ⟨b', o', e, hb, hc⟩
  · left; rw [h]; simp
  · injection e with e
    injection e with e1 e2
    subst e1; subst e2
    refine .inr ⟨b, o + p, rfl, hb, fun i hi => ?_⟩
    have hi1 : i < 64 ∧ p + i < l.length := by rw [List.length_take, List.length_drop] at hi; omega
    have := hc (p + i) hi1.2
    rw [← Nat.add_assoc] at this
    rw [this, List.getElem_take, List.getElem_drop]
end Go.Proofs.YtinbegnojfpeiaaDoor

/- A byte's type: its zero, its size. -/
namespace Go.Proofs.YtinbegnojfpeiaaDoor
theorem bytesInfo : (Tryd.prog.info? 5).map (fun i => (i.zero, i.size, i.bytes)) = some (some (.int .u8 0), 1, 1) := by kernel_rfl
end Go.Proofs.YtinbegnojfpeiaaDoor

/- put: a number's bytes, the highest first; ending: what is put behind the bytes. -/
namespace Go.Proofs.YtinbegnojfpeiaaDoor
set_option linter.unusedVariables false
set_option maxRecDepth 100000
set_option linter.unusedSimpArgs false
open Go.RowKit


/-- The last m bytes of a number, the highest first. -/
def be (m n : Nat) : List UInt8 := (List.range m).map fun i => UInt8.ofNat (n / 256 ^ (m - 1 - i))
theorem be_len (m n : Nat) : (be m n).length = m := by unfold be; rw [List.length_map, List.length_range]
theorem be_at (m n j : Nat) (h : j < m) : (be m n)[j]? = some (UInt8.ofNat (n / 256 ^ (m - 1 - j))) := by
  unfold be; rw [List.getElem?_map, List.getElem?_range h, Option.map_some]
theorem be8_eq (n : Nat) : be8 n = be 8 n := rfl
/-- What lies there when the last m - j bytes are written. -/
def part (x : List UInt8) (m n j : Nat) : List UInt8 := x.take j ++ (be m n).drop j
theorem part_full (x : List UInt8) (m n : Nat) (h : x.length = m) : part x m n m = x := by
  unfold part; rw [List.drop_of_length_le (by rw [be_len]; omega), List.append_nil, List.take_of_length_le (by omega)]
theorem part_none (x : List UInt8) (m n : Nat) : part x m n 0 = be m n := by
  unfold part; rw [List.take_zero, List.nil_append, List.drop_zero]
theorem part_len (x : List UInt8) (m n j : Nat) (h : x.length = m) (hj : j ≤ m) : (part x m n j).length = m := by
  unfold part; rw [List.length_append, List.length_take, List.length_drop, be_len]; omega
theorem part_step (p x q : List UInt8) (m n j : Nat) (h : x.length = m) (hj : j < m) :
    (bcells (p ++ part x m n (j + 1) ++ q)).setIfInBounds (p.length + j) (u8 (UInt8.ofNat (n / 256 ^ (m - 1 - j)))) = bcells (p ++ part x m n j ++ q) := by
  have e : (bcells (p ++ part x m n (j + 1) ++ q)).setIfInBounds (p.length + j) (u8 (UInt8.ofNat (n / 256 ^ (m - 1 - j)))) = bcells ((p ++ part x m n (j + 1) ++ q).set (p.length + j) (UInt8.ofNat (n / 256 ^ (m - 1 - j)))) := by
    unfold bcells; rw [List.setIfInBounds_toArray, List.map_set]
  rw [e]
  congr 1
  rw [List.append_assoc, List.append_assoc, List.set_append_right _ _ (by omega), Nat.add_sub_cancel_left]
  congr 1
  have hl := part_len x m n (j + 1) h (by omega)
  rw [List.set_append_left _ _ (by omega)]
  congr 1
  apply List.ext_getElem?
  intro k
  rw [List.getElem?_set]
  unfold part
  have ht : (x.take (j + 1)).length = j + 1 := by rw [List.length_take]; omega
  have ht2 : (x.take j).length = j := by rw [List.length_take]; omega
  by_cases hk : j = k
  · subst hk
    rw [if_pos rfl, if_pos (by rw [List.length_append, ht]; omega), List.getElem?_append_right (by omega), ht2, Nat.sub_self, List.getElem?_drop, Nat.add_zero, be_at m n j hj]
  · rw [if_neg hk]
    by_cases hk2 : k < j
    · rw [List.getElem?_append_left (by omega), List.getElem?_append_left (by omega), List.getElem?_take_of_lt (by omega), List.getElem?_take_of_lt hk2]
    · rw [List.getElem?_append_right (by omega), List.getElem?_append_right (by omega), ht, ht2, List.getElem?_drop, List.getElem?_drop]
      congr 1
      omega

set_option maxRecDepth 100000 in
set_option maxHeartbeats 1000000 in
theorem put_ok (g o m c : Nat) (t : TypeId) (p x q : List UInt8) (n : Nat) (w : World) (hB : Bk w g t (bcells (p ++ x ++ q))) (ho : p.length = o) (hm : x.length = m) (h8 : m ≤ 8) (hn : n < 18446744073709551616) :
    Calls Tryd.prog 59 #[.slice (some ⟨g, o, none⟩) m c, .int .u64 n] w fun e w' => e = .returned (.tuple #[]) ∧ Bk w' g t (bcells (p ++ be m n ++ q)) ∧ Below g w w' := by
  have HB := Lib.hid hB
  have HO := Lib.hid ho
  have HM := Lib.hid hm
  clear hB ho hm
  go_enter Tryd.func59, Tryd.ntmps59
  go_wp2_with fail
  go_loopw [7, 1] (fun v7 v1 wr => ∃ i r : Nat, i ≤ m ∧ v7 = .int .i64 i ∧ v1 = .int .u64 r ∧ r < 18446744073709551616 ∧ Hid (r = n / 256 ^ i) ∧ Hid (Bk wr g t (bcells (p ++ part x m n (m - i) ++ q))) ∧ Hid (Below g w wr)) (fun v7 _ _ => m - (intOf v7).toNat)
  case atStart => exact ⟨0, n, by omega, rfl, rfl, hn, Lib.hid (by rw [Nat.pow_zero, Nat.div_one]), Lib.hid (by rw [Nat.sub_zero, part_full _ _ _ HM.out]; exact HB.out), Lib.hid (Below.refl _ _)⟩
  case round =>
    obtain ⟨i, r, hi, rfl, rfl, hr, HR, HC, HBB⟩ := hrel
    by_cases hi1 : i < m
    · obtain ⟨j, hj⟩ : ∃ j, m - i = j + 1 := ⟨m - i - 1, by omega⟩
      obtain ⟨m1, hm1⟩ : ∃ m1, m1 + 1 = m := ⟨m - 1, by omega⟩
      obtain ⟨y1, z1⟩ := iwrap ((m : Int) - 1) m1 (by omega) (by omega)
      obtain ⟨y2, z2⟩ := iwrap ((m1 : Int) - (i : Int)) j (by omega) (by omega)
      have bj : (j : Int) < (m : Int) := by omega
      have hlen : o + j < (bcells (p ++ part x m n (j + 1) ++ q)).size := by
        rw [bcells_size, List.length_append, List.length_append, part_len x m n (j + 1) HM.out (by omega), HO.out]; omega
      rw [hj] at HC
      have HST := Lib.hid (part_step p x q m n j HM.out (by omega))
      obtain ⟨v, hv⟩ : ∃ v, (bcells (p ++ part x m n (j + 1) ++ q))[o + j]? = some v := ⟨_, Array.getElem?_eq_getElem hlen⟩
      have hc : wr.cell? ⟨g, o + j, none⟩ = some v := (HC.out.cell _).trans hv
      have hf : wr.frozen? ⟨g, o + j, none⟩ = false := HC.out.frozen _
      have HJ := Lib.hid hj
      clear hj hlen hv
      go_wp2_with fail
      go_roundw
      case rel =>
        have e1 : n / 256 ^ i = r := HR.out.symm
        have e2 : m - 1 - j = i := by have := HJ.out; omega
        refine ⟨i + 1, r / 256, by omega, by go_num, by simp, Nat.lt_of_le_of_lt (Nat.div_le_self _ _) hr, Lib.hid ?_, Lib.hid ?_, Lib.hid ?_⟩
        · rw [HR.out, Nat.div_div_eq_div_mul, Nat.pow_succ]
        · rw [show m - (i + 1) = j by have := HJ.out; omega, ← HST.out, HO.out, e2, e1]
          have e3 : Go.Proofs.YtinbegnojfpeiaaDoor.u8 (UInt8.ofNat r) = .int .u8 ((r : Int) % 256) := by
            show Value.int .u8 (((UInt8.ofNat r).toNat : Nat) : Int) = _
            rw [UInt8.toNat_ofNat']; simp
          rw [e3]
          exact HC.out.set (o + j) _
        · exact HBB.out.setCell (p := ⟨g, o + j, none⟩) (Nat.le_refl _) _
      case measure => simp [intOf]; omega
    · have hi2 : i = m := by omega
      have HI := Lib.hid hi2
      clear hi2
      go_wp2_with fail
      go_end0
      refine ⟨rfl, ?_, HBB.out⟩
      have := HC.out
      rw [HI.out, Nat.sub_self, part_none] at this
      exact this
end Go.Proofs.YtinbegnojfpeiaaDoor
