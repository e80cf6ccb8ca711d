/- The document's own bytes of digits. (Written by gen_runhex.py.) -/
import Derived.Test.YtoekdiefbpnekaaDoorUnhex
import Derived.Test.YtoekdiefbpnekaaDoorAppOp
namespace Go.Proofs.YtoekdiefbpnekaaDoor
set_option linter.unusedVariables false
set_option linter.unusedSimpArgs false
open Go.RowKit

/-- A digit's number; 16, if it is none. -/
def dv (c : UInt8) : Nat := match val c with
  | some n => n
  | none => 16
theorem dv_some (c : UInt8) (n : Nat) (h : val c = some n) : dv c = n := by unfold dv; rw [h]
theorem dv_none (c : UInt8) (h : val c = none) : dv c = 16 := by unfold dv; rw [h]
set_option maxHeartbeats 1000000 in
theorem digit_ok (c : UInt8) (w : World) : Calls Tryd.prog 28 #[.int .u8 (c.toNat : Int)] w fun e w' => e = .returned (.int .u8 ((dv c : Nat) : Int)) ∧ w' = w := by
  have HD := Lib.hid (show dv c = if 48 ≤ c.toNat ∧ c.toNat ≤ 57 then c.toNat - 48 else if 97 ≤ c.toNat ∧ c.toNat ≤ 102 then c.toNat - 87 else 16 by
    unfold dv val
    split
    · rename_i n h; split at h
      · injection h with h; rw [if_pos (by assumption)]; exact h.symm
      · split at h
        · injection h with h; rw [if_neg (by assumption), if_pos (by assumption)]; exact h.symm
        · cases h
    · rename_i h; split at h
      · cases h
      · split at h
        · cases h
        · rw [if_neg (by assumption), if_neg (by assumption)])
  have hlt := c.toNat_lt
  obtain ⟨x, hx⟩ : ∃ x, x = c.toNat := ⟨_, rfl⟩
  rw [← hx] at HD hlt ⊢
  clear hx
  obtain ⟨r, hr⟩ : ∃ r, r = dv c := ⟨_, rfl⟩
  rw [← hr] at HD ⊢
  clear hr
  by_cases h1 : x < 48
  · have HR := Lib.hid (show r = 16 by rw [HD.out, if_neg (by omega), if_neg (by omega)])
    have i1 : (x : Int) < 48 := by omega
    have i2 : (x : Int) < 97 := by omega
    have d1 : decide ((48 : Int) ≤ (x : Int)) = false := by simp; omega
    have d2 : decide ((97 : Int) ≤ (x : Int)) = false := by simp; omega
    clear h1
    go_enter Tryd.func28, Tryd.ntmps28
    go_wp2_with fail
    go_ret
    exact ⟨by rw [HR.out]; rfl, rfl⟩
  by_cases h2 : x ≤ 57
  · obtain ⟨d, hd⟩ : ∃ d, x = d + 48 := ⟨x - 48, by omega⟩
    have HR := Lib.hid (show r = d by rw [HD.out, if_pos (by omega)]; omega)
    have i1 : (48 : Int) ≤ (x : Int) := by omega
    have i2 : (x : Int) ≤ 57 := by omega
    have d1 : decide ((48 : Int) ≤ (x : Int)) = true := by simp; omega
    have d2 : decide ((x : Int) ≤ 57) = true := by simp; omega
    have e1 : ((x : Int) - 48) % 256 = (d : Int) := by omega
    have e2 : IntKind.u8.wrap ((x : Int) - 48) = (d : Int) := by rw [IntKind.wrap_u8]; omega
    have HE := Lib.hid (show (x : Int) - 48 = (d : Int) by omega)
    clear h1 h2 hd
    go_enter Tryd.func28, Tryd.ntmps28
    go_wp2_with fail
    go_ret
    exact ⟨by rw [HR.out]; first | rfl | exact congrArg (fun z => Ending.returned (Value.int .u8 z)) HE.out, rfl⟩
  by_cases h3 : x < 97
  · have HR := Lib.hid (show r = 16 by rw [HD.out, if_neg (by omega), if_neg (by omega)])
    have i0 : (48 : Int) ≤ (x : Int) := by omega
    have i1 : (57 : Int) < (x : Int) := by omega
    have i2 : (x : Int) < 97 := by omega
    have d0 : decide ((48 : Int) ≤ (x : Int)) = true := by simp; omega
    have d1 : decide ((x : Int) ≤ 57) = false := by simp; omega
    have d2 : decide ((97 : Int) ≤ (x : Int)) = false := by simp; omega
    clear h1 h2 h3
    go_enter Tryd.func28, Tryd.ntmps28
    go_wp2_with fail
    go_ret
    exact ⟨by rw [HR.out]; rfl, rfl⟩
  by_cases h4 : x ≤ 102
  · obtain ⟨d, hd⟩ : ∃ d, x = d + 97 := ⟨x - 97, by omega⟩
    have HR := Lib.hid (show r = d + 10 by rw [HD.out, if_neg (by omega), if_pos (by omega)]; omega)
    have i0 : (48 : Int) ≤ (x : Int) := by omega
    have i1 : (57 : Int) < (x : Int) := by omega
    have i2 : (97 : Int) ≤ (x : Int) := by omega
    have i3 : (x : Int) ≤ 102 := by omega
    have d0 : decide ((48 : Int) ≤ (x : Int)) = true := by simp; omega
    have d1 : decide ((x : Int) ≤ 57) = false := by simp; omega
    have d2 : decide ((97 : Int) ≤ (x : Int)) = true := by simp; omega
    have d3 : decide ((x : Int) ≤ 102) = true := by simp; omega
    have HE := Lib.hid (show (x : Int) - 97 + 10 = ((d + 10 : Nat) : Int) by omega)
    clear h1 h2 h3 h4 hd
    go_enter Tryd.func28, Tryd.ntmps28
    go_wp2_with fail
    go_ret
    exact ⟨by rw [HR.out]; first | rfl | exact congrArg (fun z => Ending.returned (Value.int .u8 z)) HE.out, rfl⟩
  · have HR := Lib.hid (show r = 16 by rw [HD.out, if_neg (by omega), if_neg (by omega)])
    have i0 : (48 : Int) ≤ (x : Int) := by omega
    have i1 : (57 : Int) < (x : Int) := by omega
    have i2 : (97 : Int) ≤ (x : Int) := by omega
    have i3 : (102 : Int) < (x : Int) := by omega
    have d0 : decide ((48 : Int) ≤ (x : Int)) = true := by simp; omega
    have d1 : decide ((x : Int) ≤ 57) = false := by simp; omega
    have d2 : decide ((97 : Int) ≤ (x : Int)) = true := by simp; omega
    have d3 : decide ((x : Int) ≤ 102) = false := by simp; omega
    clear h1 h2 h3 h4
    go_enter Tryd.func28, Tryd.ntmps28
    go_wp2_with fail
    go_ret
    exact ⟨by rw [HR.out]; rfl, rfl⟩

def RUnhexPost (s : ByteArray) (w : World) (e : Ending) (w' : World) : Prop :=
  (∃ l A c, unhexB s.data.toList = some l ∧ e = .returned (.tuple #[.slice A l.length c, .bool true]) ∧ OB w' w.heap.size 5 A c l ∧ Below w.heap.size w w') ∨
  (unhexB s.data.toList = none ∧ e = .returned (.tuple #[.slice none 0 0, .bool false]) ∧ Below w.heap.size w w')

set_option maxRecDepth 100000 in
set_option maxHeartbeats 2000000 in
theorem runhex_ok (s : ByteArray) (w : World) (hn : s.size ≤ 1099511627776) : Calls Tryd.prog 14 #[.string s] w (RUnhexPost s w) := by
  by_cases hodd : s.size % 2 = 1
  · have ho : (s.size : Int) % 2 = 1 := by omega
    have ho2 : (s.size : Int).tmod 2 = 1 := by rw [Int.tmod_eq_emod_of_nonneg (by omega)]; exact ho
    have HU := Lib.hid (unhexB_odd s.data.toList hodd)
    clear hodd
    go_enter Tryd.func14, Tryd.ntmps14
    go_wp2_with fail
    go_ret2
    exact .inr ⟨HU.out, rfl, Below.refl _ _⟩
  · obtain ⟨m, hm⟩ : ∃ m, s.size = 2 * m := ⟨s.size / 2, by omega⟩
    have ho : (s.size : Int) % 2 = 0 := by omega
    have ho2 : (s.size : Int).tmod 2 = 0 := by rw [Int.tmod_eq_emod_of_nonneg (by omega)]; exact ho
    have HM := Lib.hid hm
    have HSL := Lib.hid (show s.data.toList.length = 2 * m from hm)
    have HMM := Lib.hid (show m ≤ 549755813888 by omega)
    clear hodd
    go_enter Tryd.func14, Tryd.ntmps14
    go_wp2_with fail
    clear ho ho2 hm
    go_loopw [5, 4] (fun v5 v4 wr => ∃ (i p L : Nat) (l : List UInt8) (A : Option Addr) (c : Nat), i ≤ m ∧ Hid (p = 2 * i) ∧ v5 = .int .i64 p ∧ v4 = .slice A L c ∧ Hid (unhexB (s.data.toList.take (2 * i)) = some l ∧ l.length = i) ∧ Hid (l.length = L) ∧ Hid (OB wr w.heap.size 5 A c l) ∧ Hid (Below w.heap.size w wr)) (fun v5 _ _ => s.size - (intOf v5).toNat)
    case atStart => exact ⟨0, 0, 0, [], none, 0, by omega, Lib.hid rfl, rfl, rfl, Lib.hid ⟨rfl, rfl⟩, Lib.hid rfl, Lib.hid (OB.nil _ _ _), Lib.hid (Below.refl _ _)⟩
    case round =>
      obtain ⟨i, p, L, l, A, c, hi, HP, rfl, rfl, HU, HLL, HO, HB⟩ := hrel
      by_cases hi1 : i < m
      · have hps : p + 1 < s.size := by have := HP.out; have := HM.out; omega
        have HA := Lib.hid (idx_str s p (by omega))
        obtain ⟨p1, hp1⟩ : ∃ p1, p1 = p + 1 := ⟨_, rfl⟩
        have HAB := Lib.hid (idx_str s p1 (by omega))
        have HNX := Lib.hid (fun x y => unhexB_next s.data.toList i x y l (by rw [HSL.out]; omega) HU.out.1)
        have HBAD := Lib.hid (unhexB_bad s.data.toList i (by rw [HSL.out]; omega))
        rw [← HP.out, show p + 1 = p1 from hp1.symm] at HNX HBAD
        have b1 : (p : Int) < (s.size : Int) := by omega
        obtain ⟨p2, hp2⟩ : ∃ p2, p2 = p + 2 := ⟨_, rfl⟩
        have HP2 := Lib.hid (show p2 = 2 * (i + 1) by rw [hp2, HP.out]; omega)
        have HME := Lib.hid (show s.size - p2 < s.size - p by omega)
        have HLB := Lib.hid (show l.length + 1 ≤ 140737488355328 by rw [HU.out.2]; have := HMM.out; omega)
        have y2 : (p : Int) + 1 = (p1 : Int) := by omega
        have Y5 := Lib.hid (iwrap ((p : Int) + 1) p1 (by omega) (by omega))
        have Y6 := Lib.hid (iwrap ((p : Int) + 2) p2 (by omega) (by omega))
        clear hp2
        obtain ⟨a, ha⟩ : ∃ a, a = s.data.toList.getD p 0 := ⟨_, rfl⟩
        obtain ⟨b, hb⟩ : ∃ b, b = s.data.toList.getD p1 0 := ⟨_, rfl⟩
        rw [← ha] at HA HNX HBAD
        rw [← hb] at HAB HNX HBAD
        clear ha hb hp1 hps
        cases hva : val a with
        | none =>
          have HN := Lib.hid (HBAD.out (.inl hva))
          have HDA := Lib.hid (dv_none a hva)
          clear HNX hva HBAD
          obtain ⟨y5, y6⟩ := Y5.out
          go_wp2_with (refine wpList_index rfl 9 (.tmp 18) (.tmp 19) rfl _ _ (.int .u8 (a.toNat : Int)) rfl rfl (HA.out _) ?_)
          refine (digit_ok a _).mono ?_
          rintro e w2 ⟨rfl, rfl⟩
          rw [HDA.out]
          go_wp2_with (refine wpList_index rfl 9 (.tmp 22) (.tmp 24) rfl _ _ (.int .u8 (b.toNat : Int)) rfl rfl (by first | exact HAB.out _ | (rw [y2]; exact HAB.out _) | (rw [y5]; exact HAB.out _) | (rw [y6]; exact HAB.out _)) ?_)
          refine (digit_ok b _).mono ?_
          rintro e w2 ⟨rfl, rfl⟩
          go_wp2_with fail
          go_ret2
          exact .inr ⟨HN.out, rfl, HB.out⟩
        | some x =>
          have hx16 := val_lt a x hva
          have HDA := Lib.hid (dv_some a x hva)
          cases hvb : val b with
          | none =>
            have HN := Lib.hid (HBAD.out (.inr hvb))
            have HDB := Lib.hid (dv_none b hvb)
            have hx15 : (x : Int) ≤ 15 := by omega
            clear HNX hva hvb HBAD
            obtain ⟨y5, y6⟩ := Y5.out
            go_wp2_with (refine wpList_index rfl 9 (.tmp 18) (.tmp 19) rfl _ _ (.int .u8 (a.toNat : Int)) rfl rfl (HA.out _) ?_)
            refine (digit_ok a _).mono ?_
            rintro e w2 ⟨rfl, rfl⟩
            rw [HDA.out]
            go_wp2_with (refine wpList_index rfl 9 (.tmp 22) (.tmp 24) rfl _ _ (.int .u8 (b.toNat : Int)) rfl rfl (by first | exact HAB.out _ | (rw [y2]; exact HAB.out _) | (rw [y5]; exact HAB.out _) | (rw [y6]; exact HAB.out _)) ?_)
            refine (digit_ok b _).mono ?_
            rintro e w2 ⟨rfl, rfl⟩
            rw [HDB.out]
            go_wp2_with fail
            go_ret2
            exact .inr ⟨HN.out, rfl, HB.out⟩
          | some y =>
            have hy16 := val_lt b y hvb
            have HDB := Lib.hid (dv_some b y hvb)
            have HN := Lib.hid (HNX.out x y hva hvb)
            have hx15 : (x : Int) ≤ 15 := by omega
            have hy15 : (y : Int) ≤ 15 := by omega
            obtain ⟨z, hz⟩ : ∃ z, z = 16 * x + y := ⟨_, rfl⟩
            have HZ8 := Lib.hid (show (z : Int) = ((UInt8.ofNat z).toNat : Int) by rw [UInt8.toNat_ofNat', hz]; omega)
            rw [← hz] at HN
            obtain ⟨q, hq⟩ : ∃ q, q = 16 * x := ⟨_, rfl⟩
            have K1 := Lib.hid (show IntKind.u8.wrap (16 * (x : Int)) = (q : Int) ∧ (16 * (x : Int)) % 256 = (q : Int) by rw [IntKind.wrap_u8]; omega)
            have K2 := Lib.hid (show IntKind.u8.wrap ((q : Int) + (y : Int)) = (z : Int) ∧ ((q : Int) + (y : Int)) % 256 = (z : Int) by rw [IntKind.wrap_u8]; omega)
            have HZ255 := Lib.hid (show (z : Int) ≤ 255 by omega)
            clear hq
            clear HNX hva hvb HBAD hz
            obtain ⟨y5, y6⟩ := Y5.out
            go_wp2_with (refine wpList_index rfl 9 (.tmp 18) (.tmp 19) rfl _ _ (.int .u8 (a.toNat : Int)) rfl rfl (HA.out _) ?_)
            refine (digit_ok a _).mono ?_
            rintro e w2 ⟨rfl, rfl⟩
            rw [HDA.out]
            go_wp2_with (refine wpList_index rfl 9 (.tmp 22) (.tmp 24) rfl _ _ (.int .u8 (b.toNat : Int)) rfl rfl (by first | exact HAB.out _ | (rw [y2]; exact HAB.out _) | (rw [y5]; exact HAB.out _) | (rw [y6]; exact HAB.out _)) ?_)
            refine (digit_ok b _).mono ?_
            rintro e w2 ⟨rfl, rfl⟩
            rw [HDB.out]
            clear y5 y6 y2
            obtain ⟨k1, k3⟩ := K1.out
            obtain ⟨k2, k4⟩ := K2.out
            obtain ⟨y7, y8⟩ := Y6.out
            go_wp2_with (at_builtin; refine wp_app rfl (.tmp 33) (.tmp 38) 22 5 rfl Tryd.underlying22 bytesInfo w.heap.size l A L c rfl HLL.out (HO.out.alloc _) [UInt8.ofNat z] _ 1 _ _ rfl rfl (Rb.one (w := w2) (c := UInt8.ofNat z) rfl HZ8.out) (by have := HLB.out; simp only [List.length_singleton]; omega) (by have := HB.out.size; simp only [World.size_alloc]; omega) ?_; intro A4 c4 w4 ho4 hg4 hb4; rw [show (l ++ [UInt8.ofNat z]).length = L + 1 by rw [List.length_append, HLL.out]; rfl])
            go_roundw
            case rel => exact ⟨i + 1, p2, L + 1, _, A4, c4, by omega, HP2, rfl, rfl, Lib.hid ⟨HN.out, by rw [List.length_append, HU.out.2]; rfl⟩, Lib.hid (by rw [List.length_append, HLL.out]; rfl), Lib.hid ho4, Lib.hid ((HB.out.alloc HB.out.size _).trans hb4)⟩
            case measure => exact HME.out
      · have b1 : (s.size : Int) ≤ (p : Int) := by have := HP.out; have := HM.out; omega
        have HF := Lib.hid (show unhexB s.data.toList = some l by
          have := HU.out.1
          rwa [List.take_of_length_le (by rw [HSL.out]; omega)] at this)
        go_wp2_with fail
        go_ret2
        exact .inl ⟨l, A, c, HF.out, by rw [HLL.out]; rfl, HO.out, HB.out⟩
end Go.Proofs.YtoekdiefbpnekaaDoor
