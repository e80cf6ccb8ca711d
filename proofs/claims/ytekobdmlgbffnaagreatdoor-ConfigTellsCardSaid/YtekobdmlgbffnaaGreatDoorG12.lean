/- Build, Hex, Unhex, RUnhex, CzB0: texts of this seat, one behind the other. -/
import Derived.Test.YtekobdmlgbffnaaGreatDoorG4
import Derived.Test.YtekobdmlgbffnaaGreatDoorRows
import Derived.Test.YtekobdmlgbffnaaGreatDoorG2
import Derived.Deep.QuietTactic
import Derived.BigQuiet
import Derived.Deep.Cut
import Derived.Deep.CutRange
import Derived.Shelf.Strings.Builder1
import Derived.Test.YtekobdmlgbffnaaGreatDoorG3
import Derived.Test.YtekobdmlgbffnaaGreatDoorShelf
import Derived.Test.YtekobdmlgbffnaaGreatDoorG8
import Derived.Test.YtekobdmlgbffnaaGreatDoorG5
import Derived.Test.YtekobdmlgbffnaaGreatDoorG11
/- A byte put behind a builder that has been written to, or grown. -/
namespace Go.Proofs.YtekobdmlgbffnaaGreatDoor
set_option linter.unusedVariables false
set_option maxRecDepth 100000
set_option linter.unusedSimpArgs false
open Go.RowKit

/-- The builder at block b holds the bytes l. -/
abbrev Bd (B b : Nat) (l : List UInt8) (w : World) : Prop := Lib.BuilderAt 154 5 B b (.pointer (some ⟨b, 0, none⟩)) (Lib.byteCells l) w

set_option maxRecDepth 100000 in
theorem ccheck_ok (b : Nat) (w : World) (h0 : w.cell? ⟨b, 0, none⟩ = some (.pointer (some ⟨b, 0, none⟩))) :
    Calls Tryz.prog 120 #[.pointer (some ⟨b, 0, none⟩)] w fun e w' => e = .returned (.tuple #[]) ∧ w' = w := by
  obtain ⟨j, hj, _⟩ := Option.map_eq_some_iff.1 (show (Tryz.prog.info? 154).map (·.size) = some 2 by kernel_rfl)
  go_enter Tryz.func120, Tryz.ntmps120
  go_wp2
  rw [Lib.run_neq_ptr_same w _ Tryz.underlying152 hj]
  go_wp2
  go_end0
  exact ⟨rfl, rfl⟩

set_option maxHeartbeats 1000000 in
theorem wbyte_ok (B b : Nat) (l : List UInt8) (c : UInt8) (w : World) (h : Bd B b l w) (hlen : l.length + 1 ≤ 140737488355328) (hBw : B ≤ w.heap.size) :
    Calls Tryz.prog 94 #[.pointer (some ⟨b, 0, none⟩), .int .u8 (c.toNat : Int)] w fun e w' => e = .returned .nilIface ∧ Bd B b (l ++ [c]) w' ∧ Below B w w' := by
  obtain ⟨i0, hi, hz0, hz1, hz2⟩ := info_parts bytesInfo
  obtain ⟨hB, v, hbk, hown, hne⟩ := h
  have hbl : (Lib.byteCells l).length = l.length := Lib.byteCells_length l
  have c0 : w.cell? ⟨b, 0, none⟩ = some (.pointer (some ⟨b, 0, none⟩)) := by rw [Lib.cell_of_heap hbk]; rfl
  have c1 : w.cell? ⟨b, 1, none⟩ = some v := by rw [Lib.cell_of_heap hbk]; rfl
  have hlt : b < w.heap.size := lt_of_block hbk
  go_enter Tryz.func94, Tryz.ntmps94
  go_wp2_with (go_at_call 120; refine (ccheck_ok b w c0).mono ?_)
  rintro e w1 ⟨rfl, rfl⟩
  go_wp2_with (at_builtin; refine wpList_append_own _ rfl _ _ 98 rfl B 5 i0 (.int .u8 0) 1 1 Tryz.underlying98 hi hz0 hz1 hz2 rfl (by decide) _ _ _ rfl (hown.alloc _) ⟨w1.heap.size, 0, none⟩ 1 1 [.int .u8 (c.toNat : Int)] rfl rfl ?c1 ?c2 ?c3 ?c4 ?c5 ?_)
  case c1 =>
    intro j u hj
    match j, hj with
    | 0, hj => simp at hj; subst hj; simp [Addr.add]
  case c2 => intro u hu; simp at hu; subst hu; rfl
  case c3 => unfold maxLen; omega
  case c4 => omega
  case c5 => simp; omega
  intro v' w2 hown' hgrow _
  have hb2 : w2.heap[b]? = some (.cells #[.pointer (some ⟨b, 0, none⟩), v] 154 (0, 0)) := by
    rw [hgrow.block b (by simp; omega) (fun e => hne e.symm), Lib.alloc_old w1 _ b hlt]
    exact hbk
  have d0 : w2.cell? ⟨b, 0, none⟩ = some (.pointer (some ⟨b, 0, none⟩)) := by rw [Lib.cell_of_heap hb2]; rfl
  have d1 : w2.cell? ⟨b, 1, none⟩ = some v := by rw [Lib.cell_of_heap hb2]; rfl
  have f1 : w2.frozen? ⟨b, 1, none⟩ = false := Lib.frozen_of_heap hb2 1
  have hbel2 : Below B w1 w2 := ((Below.refl B w1).alloc hBw _).grown hgrow (by simp; omega) (fun k hk => (hown.lt k hk).1)
  obtain ⟨g, cap, rfl⟩ : ∃ g cap, v' = .slice (some ⟨g, 0, none⟩) (l.length + 1) cap := by
    rcases hown'.2 with ⟨_, h0⟩ | ⟨g, cap, cur, hv, _⟩
    · omega
    · exact ⟨g, cap, hv⟩
  go_wp2
  go_ret
  refine ⟨rfl, ?_, hbel2.setCell (p := ⟨b, 1, none⟩) hB _⟩
  have := Lib.BuilderAt.put (T := 154) (e := 5) hB hb2 (bs' := Lib.byteCells (l ++ [c])) (by rw [Lib.byteCells_append]; simpa [Lib.byteCells] using hown') (by decide)
  simpa using this
end Go.Proofs.YtekobdmlgbffnaaGreatDoor

/- Hex: bytes in digits. -/
namespace Go.Proofs.YtekobdmlgbffnaaGreatDoor
set_option linter.unusedVariables false
set_option maxRecDepth 100000
set_option linter.unusedSimpArgs false
open Go.RowKit

def digS : ByteArray := ⟨#[48, 49, 50, 51, 52, 53, 54, 55, 56, 57, 97, 98, 99, 100, 101, 102]⟩
theorem digS_at (q : Nat) (h : q < 16) (hs : q < digS.size) : digS[q] = dig q := by
  have : ∀ m : Fin 16, ∀ h : m.val < digS.size, digS[m.val] = dig m.val := by decide
  exact this ⟨q, h⟩ hs
theorem idx_dig (q : Nat) (h : q < 16) (k : IntKind) (u : World) : (Instr.index 9 (.string digS) (.int k (q : Int))).run Tryz.prog u = .ok (.int .u8 ((dig q).toNat : Int)) u := by
  have hs : digS.size = 16 := rfl
  rw [run_index_string u 9 digS k (q : Int) Tryz.underlying9, dif_pos (by rw [hs]; omega)]
  have e : digS[(q : Int).toNat]'(by rw [hs]; omega) = dig q := digS_at q h (by rw [hs]; exact h)
  rw [e]

set_option maxRecDepth 100000 in
set_option maxHeartbeats 1000000 in
theorem hex_ok (A : Option Addr) (n c : Nat) (l : List UInt8) (w : World) (hl : l.length = n) (hn : n ≤ 1099511627776) (hR : Rb w w.heap.size A l) :
    Calls Tryz.prog 52 #[.slice A n c] w fun e w' => e = .returned (.string ⟨(hexB l).toArray⟩) ∧ Below w.heap.size w w' := by
  have HL := Lib.hid hl
  have HR := Lib.hid hR
  clear hl hR
  obtain ⟨n2, hn2⟩ : ∃ k, k = 2 * n := ⟨_, rfl⟩
  have y1 : 2 * (n : Int) = (n2 : Int) := by omega
  have hn3 : n2 ≤ 281474976710656 := by omega
  clear hn2
  go_enter Tryz.func52, Tryz.ntmps52
  go_wp2_with fail
  refine (Tryz.Builder_Grow_fresh_cap w.heap.size w.heap.size n2 _ (Nat.le_refl _) (heap_alloc_new w _) ?_ (by omega)).mono ?_
  · show _ ≤ (w.heap.push _).size; rw [Array.size_push]; omega
  rintro e w1 ⟨rfl, ⟨hB1, hb1⟩, _⟩
  have HB1 := Lib.hid (show Bd w.heap.size w.heap.size (hexB (l.take 0)) w1 from hB1)
  have Hb1 := Lib.hid (show Below w.heap.size w w1 from (show Below w.heap.size w (w.alloc _) by go_grown).trans hb1)
  clear hB1 hb1 y1 hn3
  go_wp2_with fail
  go_loopw [12] (fun v12 wr => ∃ i : Nat, i ≤ n ∧ v12 = .int .i64 i ∧ Hid (Bd w.heap.size w.heap.size (hexB (l.take i)) wr) ∧ Hid (Below w.heap.size w wr)) (fun v12 _ => n - (intOf v12).toNat)
  case atStart => exact ⟨0, by omega, rfl, HB1, Hb1⟩
  case round =>
    obtain ⟨i, hi, rfl, HB, HBB⟩ := hrel
    clear HB1 Hb1
    by_cases hi1 : i < n
    · have hil : i < l.length := by rw [HL.out]; exact hi1
      obtain ⟨b, o, rfl, hb, hc⟩ : ∃ b o, A = some ⟨b, o, none⟩ ∧ b < w.heap.size ∧ wr.cell? ⟨b, o + i, none⟩ = some (.int .u8 ((l[i]).toNat : Int)) := by
        rcases HR.out with h | ⟨b, o, e, hb, hc⟩
        · subst h; simp at hil
        · exact ⟨b, o, e, hb, (HBB.out.cell (p := ⟨b, o + i, none⟩) hb).trans (hc i hil)⟩
      have HT := Lib.hid (hexB_take l i hil)
      have hlt := (l[i]).toNat_lt
      obtain ⟨x, hx⟩ : ∃ x, x = (l[i]).toNat := ⟨_, rfl⟩
      rw [← hx] at hc HT hlt
      clear hx
      obtain ⟨q, hq⟩ : ∃ q, q = x / 16 := ⟨_, rfl⟩
      obtain ⟨r, hr⟩ : ∃ r, r = x % 16 := ⟨_, rfl⟩
      have e1 : (x : Int) / 16 = (q : Int) := by omega
      have e2 : (x : Int) % 16 = (r : Int) := by omega
      have e3 : (q : Int) % 256 = (q : Int) := by omega
      have e4 : (r : Int) % 256 = (r : Int) := by omega
      have HQ := Lib.hid (show q < 16 by omega)
      have HRR := Lib.hid (show r < 16 by omega)
      rw [← hq, ← hr] at HT
      have HLEN := Lib.hid (show (hexB (l.take i)).length + 2 ≤ 140737488355328 by rw [hexB_len, List.length_take]; omega)
      have HSZ := Lib.hid HBB.out.size
      clear hq hr hlt
      go_wp2_with (refine wpList_index rfl 9 (.const (.string digS)) (.tmp 17) rfl _ _ _ rfl rfl (idx_dig q HQ.out _ _) ?_)
      refine (wbyte_ok w.heap.size w.heap.size _ (dig q) _ HB.out (by have := HLEN.out; omega) HSZ.out).mono ?_
      rintro e w2 ⟨rfl, hB2, hb2⟩
      have HB2 := Lib.hid hB2
      have HBB2 := Lib.hid (HBB.out.trans hb2)
      have HSZ2 := Lib.hid HBB2.out.size
      clear hB2 hb2
      go_wp2_with (refine wpList_index rfl 9 (.const (.string digS)) (.tmp 21) rfl _ _ (.int .u8 ((dig r).toNat : Int)) rfl rfl (by first | exact idx_dig r HRR.out _ _ | (rw [e2]; exact idx_dig r HRR.out _ _) | (rw [e2, e4]; exact idx_dig r HRR.out _ _)) ?_)
      refine (wbyte_ok w.heap.size w.heap.size _ (dig r) _ HB2.out (by have := HLEN.out; rw [List.length_append, List.length_singleton]; omega) HSZ2.out).mono ?_
      rintro e w3 ⟨rfl, hB3, hb3⟩
      have HB3 := Lib.hid (show Bd w.heap.size w.heap.size (hexB (l.take (i + 1))) w3 by rw [HT.out]; exact hB3)
      have HBB3 := Lib.hid (HBB2.out.trans hb3)
      clear hB3 hb3
      go_wp2_with fail
      go_roundw
      case rel => exact ⟨i + 1, by omega, by go_num, HB3, HBB3⟩
      case measure => simp [intOf]; omega
    · have HI := Lib.hid (show l.take i = l by rw [List.take_of_length_le]; rw [HL.out]; omega)
      go_wp2_with fail
      refine (Tryz.Builder_String_any w.heap.size w.heap.size (hexB l) _ (Or.inr (by have := HB.out; rw [HI.out] at this; exact this)) HBB.out.size).mono ?_
      rintro e w2 ⟨rfl, hb2⟩
      go_wp2_with fail
      go_ret
      exact ⟨rfl, HBB.out.trans hb2⟩
end Go.Proofs.YtekobdmlgbffnaaGreatDoor

/- Unhex: the bytes of digits. -/
namespace Go.Proofs.YtekobdmlgbffnaaGreatDoor
set_option linter.unusedVariables false
set_option maxRecDepth 100000
set_option linter.unusedSimpArgs false
open Go.RowKit

theorem idx_str (s : ByteArray) (p : Nat) (h : p < s.size) (u : World) : (Instr.index 9 (.string s) (.int .i64 (p : Int))).run Tryz.prog u = .ok (.int .u8 ((s.data.toList.getD p 0).toNat : Int)) u := by
  rw [run_index_string u 9 s .i64 (p : Int) Tryz.underlying9, dif_pos (by omega)]
  have e : s[(p : Int).toNat]'(by simpa using h) = s.data.toList.getD p 0 := by
    have h2 : p < s.data.size := h
    have h3 : s.data.toList.getD p 0 = s.data[p] := by rw [List.getD, Array.getElem?_toList, Array.getElem?_eq_getElem h2]; rfl
    rw [h3]; rfl
  rw [e]
/-- A digit's place among the digits, or -1. -/
def place (c : UInt8) : Int := match val c with
  | some n => (n : Int)
  | none => -1
theorem place_eq (c : UInt8) : Lib.indexByte digs c = place c := by
  have : ∀ k : Fin 256, Lib.indexByte digs (UInt8.ofNat k.val) = place (UInt8.ofNat k.val) := by decide +kernel
  have h1 := this ⟨c.toNat, c.toNat_lt⟩
  simp only [UInt8.ofNat_toNat] at h1
  exact h1
set_option maxRecDepth 100000 in
theorem find_ok (c : UInt8) (w : World) : Calls Tryz.prog 133 #[.string digS, .int .u8 (c.toNat : Int)] w fun e w' => e = .returned (.int .i64 (place c)) ∧ w' = w :=
  (Tryz.strings_IndexByte digS (c.toNat : Int) w).mono fun e w' ⟨h1, h2⟩ => by
    refine ⟨?_, h2⟩
    rw [h1]
    have e1 : ((c.toNat : Nat) : Int).toNat.toUInt8 = c := by simp
    rw [e1]
    show Ending.returned (.int .i64 (Lib.indexByte digs c)) = _
    rw [place_eq]

theorem hexB_at : ∀ (l : List UInt8) (k : Nat), k < l.length → (hexB l).getD (2 * k) 0 = dig ((l.getD k 0).toNat / 16) ∧ (hexB l).getD (2 * k + 1) 0 = dig ((l.getD k 0).toNat % 16)
  | [], k, h => by simp at h
  | c :: r, 0, h => ⟨rfl, rfl⟩
  | c :: r, k + 1, h => by
    have := hexB_at r k (by simpa using h)
    rw [hexB, show 2 * (k + 1) + 1 = (2 * k + 1) + 1 + 1 by omega, show 2 * (k + 1) = (2 * k) + 1 + 1 by omega]
    simp only [List.getD_cons_succ]
    exact this
theorem unhexB_bad (s : List UInt8) (k : Nat) (hk : 2 * k + 1 < s.length) (h : val (s.getD (2 * k) 0) = none ∨ val (s.getD (2 * k + 1) 0) = none) : unhexB s = none := by
  cases hu : unhexB s with
  | none => rfl
  | some l =>
    exfalso
    have hs := hexB_unhexB s l hu
    have hl := hexB_len l
    rw [hs] at hl
    have h1 := hexB_at l k (by omega)
    rw [hs] at h1
    have h2 := (l.getD k 0).toNat_lt
    rw [h1.1, h1.2, val_dig _ (by omega), val_dig _ (by omega)] at h
    rcases h with h | h <;> cases h
theorem take2 (s : List UInt8) (i : Nat) (h : 2 * i + 1 < s.length) : s.take (2 * (i + 1)) = s.take (2 * i) ++ [s.getD (2 * i) 0, s.getD (2 * i + 1) 0] := by
  rw [show 2 * (i + 1) = 2 * i + 1 + 1 by omega, List.take_add_one, List.take_add_one, List.append_assoc]
  congr 1
  rw [List.getElem?_eq_getElem h, List.getElem?_eq_getElem (by omega), List.getD, List.getD, List.getElem?_eq_getElem h, List.getElem?_eq_getElem (by omega)]
  rfl
theorem unhexB_next (s : List UInt8) (i x y : Nat) (l : List UInt8) (h : 2 * i + 1 < s.length) (hl : unhexB (s.take (2 * i)) = some l) (hx : val (s.getD (2 * i) 0) = some x) (hy : val (s.getD (2 * i + 1) 0) = some y) :
    unhexB (s.take (2 * (i + 1))) = some (l ++ [UInt8.ofNat (16 * x + y)]) := by
  rw [take2 s i h]
  refine unhexB_app _ _ _ _ hl ?_
  rw [unhexB, hx, hy]; rfl
theorem fill_set (l : List UInt8) (k : Nat) (c : UInt8) : (bcells (l ++ List.replicate (k + 1) 0)).setIfInBounds l.length (u8 c) = bcells (l ++ [c] ++ List.replicate k 0) := by
  unfold bcells
  rw [List.setIfInBounds_toArray]
  congr 1
  rw [← List.map_set, List.set_append_right _ _ (Nat.le_refl _), Nat.sub_self, List.replicate_succ, List.set_cons_zero, List.append_assoc]
  rfl

/-- What a reading of digits gives back. -/
def UnhexPost (s : ByteArray) (w : World) (e : Ending) (w' : World) : Prop :=
  (∃ l g, unhexB s.data.toList = some l ∧ e = .returned (.tuple #[.slice (some ⟨g, 0, none⟩) l.length l.length, .bool true]) ∧ Rb w' w'.heap.size (some ⟨g, 0, none⟩) l ∧ w.heap.size ≤ g ∧ Below w.heap.size w w') ∨
  (unhexB s.data.toList = none ∧ e = .returned (.tuple #[.slice none 0 0, .bool false]) ∧ Below w.heap.size w w')

set_option maxRecDepth 100000 in
set_option maxHeartbeats 1000000 in
theorem unhex_ok (s : ByteArray) (w : World) (hn : s.size ≤ 1099511627776) : Calls Tryz.prog 110 #[.string s] w (UnhexPost s w) := by
  by_cases hodd : s.size % 2 = 1
  · have ho : (s.size : Int) % 2 = 1 := by omega
    have ho2 : (s.size : Int).tmod 2 = 1 := by rw [Int.tmod_eq_emod_of_nonneg (by omega)]; exact ho
    have HU := Lib.hid (unhexB_odd s.data.toList hodd)
    clear hodd
    go_enter Tryz.func110, Tryz.ntmps110
    go_wp2
    go_ret2
    exact .inr ⟨HU.out, rfl, Below.refl _ _⟩
  · obtain ⟨m, hm⟩ : ∃ m, s.size = 2 * m := ⟨s.size / 2, by omega⟩
    have ho : (s.size : Int) % 2 = 0 := by omega
    have ho2 : (s.size : Int).tmod 2 = 0 := by rw [Int.tmod_eq_emod_of_nonneg (by omega)]; exact ho
    have hd : (s.size : Int) / 2 = (m : Int) := by omega
    have hd2 : (s.size : Int).tdiv 2 = (m : Int) := by rw [Int.tdiv_eq_ediv_of_nonneg (by omega)]; exact hd
    have hmm : m ≤ 549755813888 := by omega
    have hmk := mk_bytes (P := Tryz.prog) w 98 5 Tryz.underlying98 bytesInfo m (by omega) (bcells (List.replicate m 0)) (by unfold bcells; rw [List.map_replicate]; simp)
    have HM := Lib.hid hm
    have HSL := Lib.hid (show s.data.toList.length = 2 * m from hm)
    clear hm hodd
    go_enter Tryz.func110, Tryz.ntmps110
    go_wp2_with fail
    go_loopw [18] (fun v18 wr => ∃ (i : Nat) (l : List UInt8), i ≤ m ∧ v18 = .int .i64 i ∧ Hid (unhexB (s.data.toList.take (2 * i)) = some l ∧ l.length = i) ∧ Hid (Bk wr w.heap.size 5 (bcells (l ++ List.replicate (m - i) 0))) ∧ Hid (Below w.heap.size w wr)) (fun v18 _ => m - (intOf v18).toNat)
    case atStart => exact ⟨0, [], by omega, rfl, Lib.hid ⟨rfl, rfl⟩, Lib.hid (by rw [Nat.sub_zero]; exact Bk.new _ _ _), Lib.hid (by go_grown)⟩
    case round =>
      obtain ⟨i, l, hi, rfl, HU, HB, HBB⟩ := hrel
      clear hmk
      by_cases hi1 : i < m
      · obtain ⟨p, hp⟩ : ∃ p, p = 2 * i := ⟨_, rfl⟩
        obtain ⟨p1, hp1⟩ : ∃ p1, p1 = 2 * i + 1 := ⟨_, rfl⟩
        have HA := Lib.hid (idx_str s p (by rw [HM.out]; omega))
        have HAB := Lib.hid (idx_str s p1 (by rw [HM.out]; omega))
        have HNX := Lib.hid (fun x y => unhexB_next s.data.toList i x y l (by rw [HSL.out]; omega) HU.out.1)
        have HBAD := Lib.hid (unhexB_bad s.data.toList i (by rw [HSL.out]; omega))
        have y1 : 2 * (i : Int) = (p : Int) := by omega
        have y2 : (p : Int) + 1 = (p1 : Int) := by omega
        have y3 : IntKind.i64.wrap (2 * (i : Int)) = (p : Int) := (iwrap _ p (by omega) (by omega)).1
        have y4 : wrap64 (2 * (i : Int)) = (p : Int) := (iwrap _ p (by omega) (by omega)).2
        have y5 : IntKind.i64.wrap ((p : Int) + 1) = (p1 : Int) := (iwrap _ p1 (by omega) (by omega)).1
        have y6 : wrap64 ((p : Int) + 1) = (p1 : Int) := (iwrap _ p1 (by omega) (by omega)).2
        rw [← hp1, ← hp] at HNX HBAD
        obtain ⟨a, ha⟩ : ∃ a, a = s.data.toList.getD p 0 := ⟨_, rfl⟩
        obtain ⟨b, hb⟩ : ∃ b, b = s.data.toList.getD p1 0 := ⟨_, rfl⟩
        rw [← ha] at HA HNX HBAD
        rw [← hb] at HAB HNX HBAD
        have hcell : wr.cell? ⟨w.heap.size, i, none⟩ = some (.int .u8 0) := by
          rw [HB.out.cell, bcells_at _ i (by rw [List.length_append, List.length_replicate, HU.out.2]; omega)]
          have e : (l ++ List.replicate (m - i) (0 : UInt8))[i]? = some 0 := by
            rw [List.getElem?_append_right (by rw [HU.out.2]; omega), HU.out.2, Nat.sub_self, List.getElem?_replicate, if_pos (by omega)]
          obtain ⟨hlt, he⟩ := List.getElem?_eq_some_iff.1 e
          rw [he]; rfl
        have hfr : wr.frozen? ⟨w.heap.size, i, none⟩ = false := HB.out.frozen i
        have hi3 : (i : Int) < (m : Int) := by omega
        clear hp hp1 ha hb
        cases hva : val a with
        | none =>
          have hpa : place a = -1 := by unfold place; rw [hva]
          have HN := Lib.hid (HBAD.out (.inl hva))
          clear HNX hva
          go_wp2_with (refine wpList_index rfl 9 (.tmp 21) (.tmp 23) rfl _ _ (.int .u8 (a.toNat : Int)) rfl rfl (by first | exact HA.out _ | (rw [y1]; exact HA.out _) | (rw [y3]; exact HA.out _) | (rw [y4]; exact HA.out _)) ?_)
          refine (find_ok a _).mono ?_
          rintro e w2 ⟨rfl, rfl⟩
          go_wp2_with (refine wpList_index rfl 9 (.tmp 26) (.tmp 29) rfl _ _ (.int .u8 (b.toNat : Int)) rfl rfl (by first | exact HAB.out _ | (rw [y2]; exact HAB.out _) | (rw [y5]; exact HAB.out _) | (rw [y6]; exact HAB.out _)) ?_)
          refine (find_ok b _).mono ?_
          rintro e w2 ⟨rfl, rfl⟩
          go_wp2_with fail
          go_ret2
          exact .inr ⟨HN.out, rfl, HBB.out⟩
        | some x =>
          have hpa : place a = (x : Int) := by unfold place; rw [hva]
          have hx16 := val_lt a x hva
          cases hvb : val b with
          | none =>
            have hpb : place b = -1 := by unfold place; rw [hvb]
            have HN := Lib.hid (HBAD.out (.inr hvb))
            clear HNX hva hvb
            go_wp2_with (refine wpList_index rfl 9 (.tmp 21) (.tmp 23) rfl _ _ (.int .u8 (a.toNat : Int)) rfl rfl (by first | exact HA.out _ | (rw [y1]; exact HA.out _) | (rw [y3]; exact HA.out _) | (rw [y4]; exact HA.out _)) ?_)
            refine (find_ok a _).mono ?_
            rintro e w2 ⟨rfl, rfl⟩
            go_wp2_with (refine wpList_index rfl 9 (.tmp 26) (.tmp 29) rfl _ _ (.int .u8 (b.toNat : Int)) rfl rfl (by first | exact HAB.out _ | (rw [y2]; exact HAB.out _) | (rw [y5]; exact HAB.out _) | (rw [y6]; exact HAB.out _)) ?_)
            refine (find_ok b _).mono ?_
            rintro e w2 ⟨rfl, rfl⟩
            go_wp2_with fail
            go_ret2
            exact .inr ⟨HN.out, rfl, HBB.out⟩
          | some y =>
            have hpb : place b = (y : Int) := by unfold place; rw [hvb]
            have hy16 := val_lt b y hvb
            have HN := Lib.hid (HNX.out x y hva hvb)
            obtain ⟨z, hz⟩ : ∃ z, z = 16 * x + y := ⟨_, rfl⟩
            rw [← hz] at HN
            have hz0 : (x : Int) * 16 + (y : Int) = (z : Int) := by omega
            have hz1 : (z : Int) % 256 = (z : Int) := by omega
            have HZ := Lib.hid (show z < 256 by omega)
            clear HNX HBAD hva hvb hz
            go_wp2_with (refine wpList_index rfl 9 (.tmp 21) (.tmp 23) rfl _ _ (.int .u8 (a.toNat : Int)) rfl rfl (by first | exact HA.out _ | (rw [y1]; exact HA.out _) | (rw [y3]; exact HA.out _) | (rw [y4]; exact HA.out _)) ?_)
            refine (find_ok a _).mono ?_
            rintro e w2 ⟨rfl, rfl⟩
            go_wp2_with (refine wpList_index rfl 9 (.tmp 26) (.tmp 29) rfl _ _ (.int .u8 (b.toNat : Int)) rfl rfl (by first | exact HAB.out _ | (rw [y2]; exact HAB.out _) | (rw [y5]; exact HAB.out _) | (rw [y6]; exact HAB.out _)) ?_)
            refine (find_ok b _).mono ?_
            rintro e w2 ⟨rfl, rfl⟩
            go_wp2_with fail
            go_roundw
            case rel =>
              refine ⟨i + 1, l ++ [UInt8.ofNat z], by omega, by go_num, Lib.hid ⟨HN.out, by rw [List.length_append, HU.out.2]; rfl⟩, Lib.hid ?_, Lib.hid ?_⟩
              · have h1 := fill_set l (m - (i + 1)) (UInt8.ofNat z)
                rw [show m - (i + 1) + 1 = m - i by omega, HU.out.2] at h1
                rw [← h1]
                have e1 : Go.Proofs.YtekobdmlgbffnaaGreatDoor.u8 (UInt8.ofNat z) = .int .u8 (z : Int) := by
                  show Value.int .u8 (((UInt8.ofNat z).toNat : Nat) : Int) = _
                  rw [UInt8.toNat_ofNat', Nat.mod_eq_of_lt (by have := HZ.out; omega)]
                rw [e1]
                exact HB.out.set i _
              · exact HBB.out.setCell (p := ⟨w.heap.size, i, none⟩) (Nat.le_refl _) _
            case measure => simp [intOf]; omega
      · have HT := Lib.hid (show s.data.toList.take (2 * i) = s.data.toList by rw [List.take_of_length_le]; rw [HSL.out]; omega)
        have HI := Lib.hid (show i = m by omega)
        have hi3 : (m : Int) ≤ (i : Int) := by omega
        go_wp2_with fail
        go_ret2
        refine .inl ⟨l, w.heap.size, ?_, ?_, ?_, Nat.le_refl _, HBB.out⟩
        · have := HU.out.1; rw [HT.out] at this; exact this
        · rw [HU.out.2, HI.out]; rfl
        · have h1 := HB.out
          rw [HI.out, Nat.sub_self, List.replicate_zero, List.append_nil] at h1
          exact (Rb.bk h1).more (by have := h1.lt; omega)
end Go.Proofs.YtekobdmlgbffnaaGreatDoor

/- The document's own bytes of digits. (Written by gen_runhex.py.) -/
namespace Go.Proofs.YtekobdmlgbffnaaGreatDoor
set_option linter.unusedVariables false
set_option maxRecDepth 100000
set_option linter.unusedSimpArgs false
open Go.RowKit

/-- A digit's number; 16, if it is none. -/
def dv (c : UInt8) : Nat := match val c with
  | some n => n
  | none => 16
theorem dv_some (c : UInt8) (n : Nat) (h : val c = some n) : dv c = n := by unfold dv; rw [h]
theorem dv_none (c : UInt8) (h : val c = none) : dv c = 16 := by unfold dv; rw [h]
set_option maxHeartbeats 1000000 in
theorem digit_ok (c : UInt8) (w : World) : Calls Tryz.prog 115 #[.int .u8 (c.toNat : Int)] w fun e w' => e = .returned (.int .u8 ((dv c : Nat) : Int)) ∧ w' = w := by
  have HD := Lib.hid (show dv c = if 48 ≤ c.toNat ∧ c.toNat ≤ 57 then c.toNat - 48 else if 97 ≤ c.toNat ∧ c.toNat ≤ 102 then c.toNat - 87 else 16 by
    unfold dv val
    split
    · rename_i n h; split at h
      · injection h with h; rw [if_pos (by assumption)]; exact h.symm
      · split at h
        · injection h with h; rw [if_neg (by assumption), if_pos (by assumption)]; exact h.symm
        · cases h
    · rename_i h; split at h
      · cases h
      · split at h
        · cases h
        · rw [if_neg (by assumption), if_neg (by assumption)])
  have hlt := c.toNat_lt
  obtain ⟨x, hx⟩ : ∃ x, x = c.toNat := ⟨_, rfl⟩
  rw [← hx] at HD hlt ⊢
  clear hx
  obtain ⟨r, hr⟩ : ∃ r, r = dv c := ⟨_, rfl⟩
  rw [← hr] at HD ⊢
  clear hr
  by_cases h1 : x < 48
  · have HR := Lib.hid (show r = 16 by rw [HD.out, if_neg (by omega), if_neg (by omega)])
    have i1 : (x : Int) < 48 := by omega
    have i2 : (x : Int) < 97 := by omega
    have d1 : decide ((48 : Int) ≤ (x : Int)) = false := by simp; omega
    have d2 : decide ((97 : Int) ≤ (x : Int)) = false := by simp; omega
    clear h1
    go_enter Tryz.func115, Tryz.ntmps115
    go_wp2_with fail
    go_ret
    exact ⟨by rw [HR.out]; rfl, rfl⟩
  by_cases h2 : x ≤ 57
  · obtain ⟨d, hd⟩ : ∃ d, x = d + 48 := ⟨x - 48, by omega⟩
    have HR := Lib.hid (show r = d by rw [HD.out, if_pos (by omega)]; omega)
    have i1 : (48 : Int) ≤ (x : Int) := by omega
    have i2 : (x : Int) ≤ 57 := by omega
    have d1 : decide ((48 : Int) ≤ (x : Int)) = true := by simp; omega
    have d2 : decide ((x : Int) ≤ 57) = true := by simp; omega
    have e1 : ((x : Int) - 48) % 256 = (d : Int) := by omega
    have e2 : IntKind.u8.wrap ((x : Int) - 48) = (d : Int) := by rw [IntKind.wrap_u8]; omega
    have HE := Lib.hid (show (x : Int) - 48 = (d : Int) by omega)
    clear h1 h2 hd
    go_enter Tryz.func115, Tryz.ntmps115
    go_wp2_with fail
    go_ret
    exact ⟨by rw [HR.out]; first | rfl | exact congrArg (fun z => Ending.returned (Value.int .u8 z)) HE.out, rfl⟩
  by_cases h3 : x < 97
  · have HR := Lib.hid (show r = 16 by rw [HD.out, if_neg (by omega), if_neg (by omega)])
    have i0 : (48 : Int) ≤ (x : Int) := by omega
    have i1 : (57 : Int) < (x : Int) := by omega
    have i2 : (x : Int) < 97 := by omega
    have d0 : decide ((48 : Int) ≤ (x : Int)) = true := by simp; omega
    have d1 : decide ((x : Int) ≤ 57) = false := by simp; omega
    have d2 : decide ((97 : Int) ≤ (x : Int)) = false := by simp; omega
    clear h1 h2 h3
    go_enter Tryz.func115, Tryz.ntmps115
    go_wp2_with fail
    go_ret
    exact ⟨by rw [HR.out]; rfl, rfl⟩
  by_cases h4 : x ≤ 102
  · obtain ⟨d, hd⟩ : ∃ d, x = d + 97 := ⟨x - 97, by omega⟩
    have HR := Lib.hid (show r = d + 10 by rw [HD.out, if_neg (by omega), if_pos (by omega)]; omega)
    have i0 : (48 : Int) ≤ (x : Int) := by omega
    have i1 : (57 : Int) < (x : Int) := by omega
    have i2 : (97 : Int) ≤ (x : Int) := by omega
    have i3 : (x : Int) ≤ 102 := by omega
    have d0 : decide ((48 : Int) ≤ (x : Int)) = true := by simp; omega
    have d1 : decide ((x : Int) ≤ 57) = false := by simp; omega
    have d2 : decide ((97 : Int) ≤ (x : Int)) = true := by simp; omega
    have d3 : decide ((x : Int) ≤ 102) = true := by simp; omega
    have HE := Lib.hid (show (x : Int) - 97 + 10 = ((d + 10 : Nat) : Int) by omega)
    clear h1 h2 h3 h4 hd
    go_enter Tryz.func115, Tryz.ntmps115
    go_wp2_with fail
    go_ret
    exact ⟨by rw [HR.out]; first | rfl | exact congrArg (fun z => Ending.returned (Value.int .u8 z)) HE.out, rfl⟩
  · have HR := Lib.hid (show r = 16 by rw [HD.out, if_neg (by omega), if_neg (by omega)])
    have i0 : (48 : Int) ≤ (x : Int) := by omega
    have i1 : (57 : Int) < (x : Int) := by omega
    have i2 : (97 : Int) ≤ (x : Int) := by omega
    have i3 : (102 : Int) < (x : Int) := by omega
    have d0 : decide ((48 : Int) ≤ (x : Int)) = true := by simp; omega
    have d1 : decide ((x : Int) ≤ 57) = false := by simp; omega
    have d2 : decide ((97 : Int) ≤ (x : Int)) = true := by simp; omega
    have d3 : decide ((x : Int) ≤ 102) = false := by simp; omega
    clear h1 h2 h3 h4
    go_enter Tryz.func115, Tryz.ntmps115
    go_wp2_with fail
    go_ret
    exact ⟨by rw [HR.out]; rfl, rfl⟩

def RUnhexPost (s : ByteArray) (w : World) (e : Ending) (w' : World) : Prop :=
  (∃ l A c, unhexB s.data.toList = some l ∧ e = .returned (.tuple #[.slice A l.length c, .bool true]) ∧ OB w' w.heap.size 5 A c l ∧ Below w.heap.size w w') ∨
  (unhexB s.data.toList = none ∧ e = .returned (.tuple #[.slice none 0 0, .bool false]) ∧ Below w.heap.size w w')

set_option maxRecDepth 100000 in
set_option maxHeartbeats 2000000 in
theorem runhex_ok (s : ByteArray) (w : World) (hn : s.size ≤ 1099511627776) : Calls Tryz.prog 78 #[.string s] w (RUnhexPost s w) := by
  by_cases hodd : s.size % 2 = 1
  · have ho : (s.size : Int) % 2 = 1 := by omega
    have ho2 : (s.size : Int).tmod 2 = 1 := by rw [Int.tmod_eq_emod_of_nonneg (by omega)]; exact ho
    have HU := Lib.hid (unhexB_odd s.data.toList hodd)
    clear hodd
    go_enter Tryz.func78, Tryz.ntmps78
    go_wp2_with fail
    go_ret2
    exact .inr ⟨HU.out, rfl, Below.refl _ _⟩
  · obtain ⟨m, hm⟩ : ∃ m, s.size = 2 * m := ⟨s.size / 2, by omega⟩
    have ho : (s.size : Int) % 2 = 0 := by omega
    have ho2 : (s.size : Int).tmod 2 = 0 := by rw [Int.tmod_eq_emod_of_nonneg (by omega)]; exact ho
    have HM := Lib.hid hm
    have HSL := Lib.hid (show s.data.toList.length = 2 * m from hm)
    have HMM := Lib.hid (show m ≤ 549755813888 by omega)
    clear hodd
    go_enter Tryz.func78, Tryz.ntmps78
    go_wp2_with fail
    clear ho ho2 hm
    go_loopw [5, 4] (fun v5 v4 wr => ∃ (i p L : Nat) (l : List UInt8) (A : Option Addr) (c : Nat), i ≤ m ∧ Hid (p = 2 * i) ∧ v5 = .int .i64 p ∧ v4 = .slice A L c ∧ Hid (unhexB (s.data.toList.take (2 * i)) = some l ∧ l.length = i) ∧ Hid (l.length = L) ∧ Hid (OB wr w.heap.size 5 A c l) ∧ Hid (Below w.heap.size w wr)) (fun v5 _ _ => s.size - (intOf v5).toNat)
    case atStart => exact ⟨0, 0, 0, [], none, 0, by omega, Lib.hid rfl, rfl, rfl, Lib.hid ⟨rfl, rfl⟩, Lib.hid rfl, Lib.hid (OB.nil _ _ _), Lib.hid (Below.refl _ _)⟩
    case round =>
      obtain ⟨i, p, L, l, A, c, hi, HP, rfl, rfl, HU, HLL, HO, HB⟩ := hrel
      by_cases hi1 : i < m
      · have hps : p + 1 < s.size := by have := HP.out; have := HM.out; omega
        have HA := Lib.hid (idx_str s p (by omega))
        obtain ⟨p1, hp1⟩ : ∃ p1, p1 = p + 1 := ⟨_, rfl⟩
        have HAB := Lib.hid (idx_str s p1 (by omega))
        have HNX := Lib.hid (fun x y => unhexB_next s.data.toList i x y l (by rw [HSL.out]; omega) HU.out.1)
        have HBAD := Lib.hid (unhexB_bad s.data.toList i (by rw [HSL.out]; omega))
        rw [← HP.out, show p + 1 = p1 from hp1.symm] at HNX HBAD
        have b1 : (p : Int) < (s.size : Int) := by omega
        obtain ⟨p2, hp2⟩ : ∃ p2, p2 = p + 2 := ⟨_, rfl⟩
        have HP2 := Lib.hid (show p2 = 2 * (i + 1) by rw [hp2, HP.out]; omega)
        have HME := Lib.hid (show s.size - p2 < s.size - p by omega)
        have HLB := Lib.hid (show l.length + 1 ≤ 140737488355328 by rw [HU.out.2]; have := HMM.out; omega)
        have y2 : (p : Int) + 1 = (p1 : Int) := by omega
        have Y5 := Lib.hid (iwrap ((p : Int) + 1) p1 (by omega) (by omega))
        have Y6 := Lib.hid (iwrap ((p : Int) + 2) p2 (by omega) (by omega))
        clear hp2
        obtain ⟨a, ha⟩ : ∃ a, a = s.data.toList.getD p 0 := ⟨_, rfl⟩
        obtain ⟨b, hb⟩ : ∃ b, b = s.data.toList.getD p1 0 := ⟨_, rfl⟩
        rw [← ha] at HA HNX HBAD
        rw [← hb] at HAB HNX HBAD
        clear ha hb hp1 hps
        cases hva : val a with
        | none =>
          have HN := Lib.hid (HBAD.out (.inl hva))
          have HDA := Lib.hid (dv_none a hva)
          clear HNX hva HBAD
          obtain ⟨y5, y6⟩ := Y5.out
          go_wp2_with (refine wpList_index rfl 9 (.tmp 18) (.tmp 19) rfl _ _ (.int .u8 (a.toNat : Int)) rfl rfl (HA.out _) ?_)
          refine (digit_ok a _).mono ?_
          rintro e w2 ⟨rfl, rfl⟩
          rw [HDA.out]
          go_wp2_with (refine wpList_index rfl 9 (.tmp 22) (.tmp 24) rfl _ _ (.int .u8 (b.toNat : Int)) rfl rfl (by first | exact HAB.out _ | (rw [y2]; exact HAB.out _) | (rw [y5]; exact HAB.out _) | (rw [y6]; exact HAB.out _)) ?_)
          refine (digit_ok b _).mono ?_
          rintro e w2 ⟨rfl, rfl⟩
          go_wp2_with fail
          go_ret2
          exact .inr ⟨HN.out, rfl, HB.out⟩
        | some x =>
          have hx16 := val_lt a x hva
          have HDA := Lib.hid (dv_some a x hva)
          cases hvb : val b with
          | none =>
            have HN := Lib.hid (HBAD.out (.inr hvb))
            have HDB := Lib.hid (dv_none b hvb)
            have hx15 : (x : Int) ≤ 15 := by omega
            clear HNX hva hvb HBAD
            obtain ⟨y5, y6⟩ := Y5.out
            go_wp2_with (refine wpList_index rfl 9 (.tmp 18) (.tmp 19) rfl _ _ (.int .u8 (a.toNat : Int)) rfl rfl (HA.out _) ?_)
            refine (digit_ok a _).mono ?_
            rintro e w2 ⟨rfl, rfl⟩
            rw [HDA.out]
            go_wp2_with (refine wpList_index rfl 9 (.tmp 22) (.tmp 24) rfl _ _ (.int .u8 (b.toNat : Int)) rfl rfl (by first | exact HAB.out _ | (rw [y2]; exact HAB.out _) | (rw [y5]; exact HAB.out _) | (rw [y6]; exact HAB.out _)) ?_)
            refine (digit_ok b _).mono ?_
            rintro e w2 ⟨rfl, rfl⟩
            rw [HDB.out]
            go_wp2_with fail
            go_ret2
            exact .inr ⟨HN.out, rfl, HB.out⟩
          | some y =>
            have hy16 := val_lt b y hvb
            have HDB := Lib.hid (dv_some b y hvb)
            have HN := Lib.hid (HNX.out x y hva hvb)
            have hx15 : (x : Int) ≤ 15 := by omega
            have hy15 : (y : Int) ≤ 15 := by omega
            obtain ⟨z, hz⟩ : ∃ z, z = 16 * x + y := ⟨_, rfl⟩
            have HZ8 := Lib.hid (show (z : Int) = ((UInt8.ofNat z).toNat : Int) by rw [UInt8.toNat_ofNat', hz]; omega)
            rw [← hz] at HN
            obtain ⟨q, hq⟩ : ∃ q, q = 16 * x := ⟨_, rfl⟩
            have K1 := Lib.hid (show IntKind.u8.wrap (16 * (x : Int)) = (q : Int) ∧ (16 * (x : Int)) % 256 = (q : Int) by rw [IntKind.wrap_u8]; omega)
            have K2 := Lib.hid (show IntKind.u8.wrap ((q : Int) + (y : Int)) = (z : Int) ∧ ((q : Int) + (y : Int)) % 256 = (z : Int) by rw [IntKind.wrap_u8]; omega)
            have HZ255 := Lib.hid (show (z : Int) ≤ 255 by omega)
            clear hq
            clear HNX hva hvb HBAD hz
            obtain ⟨y5, y6⟩ := Y5.out
            go_wp2_with (refine wpList_index rfl 9 (.tmp 18) (.tmp 19) rfl _ _ (.int .u8 (a.toNat : Int)) rfl rfl (HA.out _) ?_)
            refine (digit_ok a _).mono ?_
            rintro e w2 ⟨rfl, rfl⟩
            rw [HDA.out]
            go_wp2_with (refine wpList_index rfl 9 (.tmp 22) (.tmp 24) rfl _ _ (.int .u8 (b.toNat : Int)) rfl rfl (by first | exact HAB.out _ | (rw [y2]; exact HAB.out _) | (rw [y5]; exact HAB.out _) | (rw [y6]; exact HAB.out _)) ?_)
            refine (digit_ok b _).mono ?_
            rintro e w2 ⟨rfl, rfl⟩
            rw [HDB.out]
            clear y5 y6 y2
            obtain ⟨k1, k3⟩ := K1.out
            obtain ⟨k2, k4⟩ := K2.out
            obtain ⟨y7, y8⟩ := Y6.out
            go_wp2_with (at_builtin; refine wp_app rfl (.tmp 33) (.tmp 38) 98 5 rfl Tryz.underlying98 bytesInfo w.heap.size l A L c rfl HLL.out (HO.out.alloc _) [UInt8.ofNat z] _ 1 _ _ rfl rfl (Rb.one (w := w2) (c := UInt8.ofNat z) rfl HZ8.out) (by have := HLB.out; simp only [List.length_singleton]; omega) (by have := HB.out.size; simp only [World.size_alloc]; omega) ?_; intro A4 c4 w4 ho4 hg4 hb4; rw [show (l ++ [UInt8.ofNat z]).length = L + 1 by rw [List.length_append, HLL.out]; rfl])
            go_roundw
            case rel => exact ⟨i + 1, p2, L + 1, _, A4, c4, by omega, HP2, rfl, rfl, Lib.hid ⟨HN.out, by rw [List.length_append, HU.out.2]; rfl⟩, Lib.hid (by rw [List.length_append, HLL.out]; rfl), Lib.hid ho4, Lib.hid ((HB.out.alloc HB.out.size _).trans hb4)⟩
            case measure => exact HME.out
      · have b1 : (s.size : Int) ≤ (p : Int) := by have := HP.out; have := HM.out; omega
        have HF := Lib.hid (show unhexB s.data.toList = some l by
          have := HU.out.1
          rwa [List.take_of_length_le (by rw [HSL.out]; omega)] at this)
        go_wp2_with fail
        go_ret2
        exact .inl ⟨l, A, c, HF.out, by rw [HLL.out]; rfl, HO.out, HB.out⟩
end Go.Proofs.YtekobdmlgbffnaaGreatDoor

/- A text in hex has at most as many bytes as signs. (Written by gen_cza.py.) -/
namespace Go.Proofs.YtekobdmlgbffnaaGreatDoor
set_option linter.unusedVariables false
set_option maxRecDepth 100000
set_option linter.unusedSimpArgs false
open Go.RowKit

theorem unhexB_le {s l : List UInt8} (h : unhexB s = some l) : l.length ≤ s.length := by
  rw [← hexB_unhexB s l h, hexB_len]; omega
end Go.Proofs.YtekobdmlgbffnaaGreatDoor
