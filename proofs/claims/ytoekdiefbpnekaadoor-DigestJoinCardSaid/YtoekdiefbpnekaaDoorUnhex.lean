/- Unhex: the bytes of digits. -/
import Derived.Test.YtoekdiefbpnekaaDoorHex
namespace Go.Proofs.YtoekdiefbpnekaaDoor
set_option linter.unusedVariables false
set_option linter.unusedSimpArgs false
open Go.RowKit

theorem idx_str (s : ByteArray) (p : Nat) (h : p < s.size) (u : World) : (Instr.index 9 (.string s) (.int .i64 (p : Int))).run Tryd.prog u = .ok (.int .u8 ((s.data.toList.getD p 0).toNat : Int)) u := by
  rw [run_index_string u 9 s .i64 (p : Int) Tryd.underlying9, dif_pos (by omega)]
  have e : s[(p : Int).toNat]'(by simpa using h) = s.data.toList.getD p 0 := by
    have h2 : p < s.data.size := h
    have h3 : s.data.toList.getD p 0 = s.data[p] := by rw [List.getD, Array.getElem?_toList, Array.getElem?_eq_getElem h2]; rfl
    rw [h3]; rfl
  rw [e]
/-- A digit's place among the digits, or -1. -/
def place (c : UInt8) : Int := match val c with
  | some n => (n : Int)
  | none => -1
theorem place_eq (c : UInt8) : Lib.indexByte digs c = place c := by
  have : ∀ k : Fin 256, Lib.indexByte digs (UInt8.ofNat k.val) = place (UInt8.ofNat k.val) := by decide +kernel
  have h1 := this ⟨c.toNat, c.toNat_lt⟩
  simp only [UInt8.ofNat_toNat] at h1
  exact h1
theorem find_ok (c : UInt8) (w : World) : Calls Tryd.prog 27 #[.string digS, .int .u8 (c.toNat : Int)] w fun e w' => e = .returned (.int .i64 (place c)) ∧ w' = w :=
  (Tryd.strings_IndexByte digS (c.toNat : Int) w).mono fun e w' ⟨h1, h2⟩ => by
    refine ⟨?_, h2⟩
    rw [h1]
    have e1 : ((c.toNat : Nat) : Int).toNat.toUInt8 = c := by simp
    rw [e1]
    show Ending.returned (.int .i64 (Lib.indexByte digs c)) = _
    rw [place_eq]

theorem hexB_at : ∀ (l : List UInt8) (k : Nat), k < l.length → (hexB l).getD (2 * k) 0 = dig ((l.getD k 0).toNat / 16) ∧ (hexB l).getD (2 * k + 1) 0 = dig ((l.getD k 0).toNat % 16)
  | [], k, h => by simp at h
  | c :: r, 0, h => ⟨rfl, rfl⟩
  | c :: r, k + 1, h => by
    have := hexB_at r k (by simpa using h)
    rw [hexB, show 2 * (k + 1) + 1 = (2 * k + 1) + 1 + 1 by omega, show 2 * (k + 1) = (2 * k) + 1 + 1 by omega]
    simp only [List.getD_cons_succ]
    exact this
theorem unhexB_bad (s : List UInt8) (k : Nat) (hk : 2 * k + 1 < s.length) (h : val (s.getD (2 * k) 0) = none ∨ val (s.getD (2 * k + 1) 0) = none) : unhexB s = none := by
  cases hu : unhexB s with
  | none => rfl
  | some l =>
    exfalso
    have hs := hexB_unhexB s l hu
    have hl := hexB_len l
    rw [hs] at hl
    have h1 := hexB_at l k (by omega)
    rw [hs] at h1
    have h2 := (l.getD k 0).toNat_lt
    rw [h1.1, h1.2, val_dig _ (by omega), val_dig _ (by omega)] at h
    rcases h with h | h <;> cases h
theorem take2 (s : List UInt8) (i : Nat) (h : 2 * i + 1 < s.length) : s.take (2 * (i + 1)) = s.take (2 * i) ++ [s.getD (2 * i) 0, s.getD (2 * i + 1) 0] := by
  rw [show 2 * (i + 1) = 2 * i + 1 + 1 by omega, List.take_add_one, List.take_add_one, List.append_assoc]
  congr 1
  rw [List.getElem?_eq_getElem h, List.getElem?_eq_getElem (by omega), List.getD, List.getD, List.getElem?_eq_getElem h, List.getElem?_eq_getElem (by omega)]
  rfl
theorem unhexB_next (s : List UInt8) (i x y : Nat) (l : List UInt8) (h : 2 * i + 1 < s.length) (hl : unhexB (s.take (2 * i)) = some l) (hx : val (s.getD (2 * i) 0) = some x) (hy : val (s.getD (2 * i + 1) 0) = some y) :
    unhexB (s.take (2 * (i + 1))) = some (l ++ [UInt8.ofNat (16 * x + y)]) := by
  rw [take2 s i h]
  refine unhexB_app _ _ _ _ hl ?_
  rw [unhexB, hx, hy]; rfl
theorem fill_set (l : List UInt8) (k : Nat) (c : UInt8) : (bcells (l ++ List.replicate (k + 1) 0)).setIfInBounds l.length (u8 c) = bcells (l ++ [c] ++ List.replicate k 0) := by
  unfold bcells
  rw [List.setIfInBounds_toArray]
  congr 1
  rw [← List.map_set, List.set_append_right _ _ (Nat.le_refl _), Nat.sub_self, List.replicate_succ, List.set_cons_zero, List.append_assoc]
  rfl

/-- What a reading of digits gives back. -/
def UnhexPost (s : ByteArray) (w : World) (e : Ending) (w' : World) : Prop :=
  (∃ l g, unhexB s.data.toList = some l ∧ e = .returned (.tuple #[.slice (some ⟨g, 0, none⟩) l.length l.length, .bool true]) ∧ Rb w' w'.heap.size (some ⟨g, 0, none⟩) l ∧ w.heap.size ≤ g ∧ Below w.heap.size w w') ∨
  (unhexB s.data.toList = none ∧ e = .returned (.tuple #[.slice none 0 0, .bool false]) ∧ Below w.heap.size w w')

set_option maxHeartbeats 1000000 in
theorem unhex_ok (s : ByteArray) (w : World) (hn : s.size ≤ 1099511627776) : Calls Tryd.prog 13 #[.string s] w (UnhexPost s w) := by
  by_cases hodd : s.size % 2 = 1
  · have ho : (s.size : Int) % 2 = 1 := by omega
    have ho2 : (s.size : Int).tmod 2 = 1 := by rw [Int.tmod_eq_emod_of_nonneg (by omega)]; exact ho
    have HU := Lib.hid (unhexB_odd s.data.toList hodd)
    clear hodd
    go_enter Tryd.func13, Tryd.ntmps13
    go_wp2
    go_ret2
    exact .inr ⟨HU.out, rfl, Below.refl _ _⟩
  · obtain ⟨m, hm⟩ : ∃ m, s.size = 2 * m := ⟨s.size / 2, by omega⟩
    have ho : (s.size : Int) % 2 = 0 := by omega
    have ho2 : (s.size : Int).tmod 2 = 0 := by rw [Int.tmod_eq_emod_of_nonneg (by omega)]; exact ho
    have hd : (s.size : Int) / 2 = (m : Int) := by omega
    have hd2 : (s.size : Int).tdiv 2 = (m : Int) := by rw [Int.tdiv_eq_ediv_of_nonneg (by omega)]; exact hd
    have hmm : m ≤ 549755813888 := by omega
    have hmk := mk_bytes (P := Tryd.prog) w 22 5 Tryd.underlying22 bytesInfo m (by omega) (bcells (List.replicate m 0)) (by unfold bcells; rw [List.map_replicate]; simp)
    have HM := Lib.hid hm
    have HSL := Lib.hid (show s.data.toList.length = 2 * m from hm)
    clear hm hodd
    go_enter Tryd.func13, Tryd.ntmps13
    go_wp2_with fail
    go_loopw [18] (fun v18 wr => ∃ (i : Nat) (l : List UInt8), i ≤ m ∧ v18 = .int .i64 i ∧ Hid (unhexB (s.data.toList.take (2 * i)) = some l ∧ l.length = i) ∧ Hid (Bk wr w.heap.size 5 (bcells (l ++ List.replicate (m - i) 0))) ∧ Hid (Below w.heap.size w wr)) (fun v18 _ => m - (intOf v18).toNat)
    case atStart => exact ⟨0, [], by omega, rfl, Lib.hid ⟨rfl, rfl⟩, Lib.hid (by rw [Nat.sub_zero]; exact Bk.new _ _ _), Lib.hid (by go_grown)⟩
    case round =>
      obtain ⟨i, l, hi, rfl, HU, HB, HBB⟩ := hrel
      clear hmk
      by_cases hi1 : i < m
      · obtain ⟨p, hp⟩ : ∃ p, p = 2 * i := ⟨_, rfl⟩
        obtain ⟨p1, hp1⟩ : ∃ p1, p1 = 2 * i + 1 := ⟨_, rfl⟩
        have HA := Lib.hid (idx_str s p (by rw [HM.out]; omega))
        have HAB := Lib.hid (idx_str s p1 (by rw [HM.out]; omega))
        have HNX := Lib.hid (fun x y => unhexB_next s.data.toList i x y l (by rw [HSL.out]; omega) HU.out.1)
        have HBAD := Lib.hid (unhexB_bad s.data.toList i (by rw [HSL.out]; omega))
        have y1 : 2 * (i : Int) = (p : Int) := by omega
        have y2 : (p : Int) + 1 = (p1 : Int) := by omega
        have y3 : IntKind.i64.wrap (2 * (i : Int)) = (p : Int) := (iwrap _ p (by omega) (by omega)).1
        have y4 : wrap64 (2 * (i : Int)) = (p : Int) := (iwrap _ p (by omega) (by omega)).2
        have y5 : IntKind.i64.wrap ((p : Int) + 1) = (p1 : Int) := (iwrap _ p1 (by omega) (by omega)).1
        have y6 : wrap64 ((p : Int) + 1) = (p1 : Int) := (iwrap _ p1 (by omega) (by omega)).2
        rw [← hp1, ← hp] at HNX HBAD
        obtain ⟨a, ha⟩ : ∃ a, a = s.data.toList.getD p 0 := ⟨_, rfl⟩
        obtain ⟨b, hb⟩ : ∃ b, b = s.data.toList.getD p1 0 := ⟨_, rfl⟩
        rw [← ha] at HA HNX HBAD
        rw [← hb] at HAB HNX HBAD
        have hcell : wr.cell? ⟨w.heap.size, i, none⟩ = some (.int .u8 0) := by
          rw [HB.out.cell, bcells_at _ i (by rw [List.length_append, List.length_replicate, HU.out.2]; omega)]
          have e : (l ++ List.replicate (m - i) (0 : UInt8))[i]? = some 0 := by
            rw [List.getElem?_append_right (by rw [HU.out.2]; omega), HU.out.2, Nat.sub_self, List.getElem?_replicate, if_pos (by omega)]
          obtain ⟨hlt, he⟩ := List.getElem?_eq_some_iff.1 e
          rw [he]; rfl
        have hfr : wr.frozen? ⟨w.heap.size, i, none⟩ = false := HB.out.frozen i
        have hi3 : (i : Int) < (m : Int) := by omega
        clear hp hp1 ha hb
        cases hva : val a with
        | none =>
          have hpa : place a = -1 := by unfold place; rw [hva]
          have HN := Lib.hid (HBAD.out (.inl hva))
          clear HNX hva
          go_wp2_with (refine wpList_index rfl 9 (.tmp 21) (.tmp 23) rfl _ _ (.int .u8 (a.toNat : Int)) rfl rfl (by first | exact HA.out _ | (rw [y1]; exact HA.out _) | (rw [y3]; exact HA.out _) | (rw [y4]; exact HA.out _)) ?_)
          refine (find_ok a _).mono ?_
          rintro e w2 ⟨rfl, rfl⟩
          go_wp2_with (refine wpList_index rfl 9 (.tmp 26) (.tmp 29) rfl _ _ (.int .u8 (b.toNat : Int)) rfl rfl (by first | exact HAB.out _ | (rw [y2]; exact HAB.out _) | (rw [y5]; exact HAB.out _) | (rw [y6]; exact HAB.out _)) ?_)
          refine (find_ok b _).mono ?_
          rintro e w2 ⟨rfl, rfl⟩
          go_wp2_with fail
          go_ret2
          exact .inr ⟨HN.out, rfl, HBB.out⟩
        | some x =>
          have hpa : place a = (x : Int) := by unfold place; rw [hva]
          have hx16 := val_lt a x hva
          cases hvb : val b with
          | none =>
            have hpb : place b = -1 := by unfold place; rw [hvb]
            have HN := Lib.hid (HBAD.out (.inr hvb))
            clear HNX hva hvb
            go_wp2_with (refine wpList_index rfl 9 (.tmp 21) (.tmp 23) rfl _ _ (.int .u8 (a.toNat : Int)) rfl rfl (by first | exact HA.out _ | (rw [y1]; exact HA.out _) | (rw [y3]; exact HA.out _) | (rw [y4]; exact HA.out _)) ?_)
            refine (find_ok a _).mono ?_
            rintro e w2 ⟨rfl, rfl⟩
            go_wp2_with (refine wpList_index rfl 9 (.tmp 26) (.tmp 29) rfl _ _ (.int .u8 (b.toNat : Int)) rfl rfl (by first | exact HAB.out _ | (rw [y2]; exact HAB.out _) | (rw [y5]; exact HAB.out _) | (rw [y6]; exact HAB.out _)) ?_)
            refine (find_ok b _).mono ?_
            rintro e w2 ⟨rfl, rfl⟩
            go_wp2_with fail
            go_ret2
            exact .inr ⟨HN.out, rfl, HBB.out⟩
          | some y =>
            have hpb : place b = (y : Int) := by unfold place; rw [hvb]
            have hy16 := val_lt b y hvb
            have HN := Lib.hid (HNX.out x y hva hvb)
            obtain ⟨z, hz⟩ : ∃ z, z = 16 * x + y := ⟨_, rfl⟩
            rw [← hz] at HN
            have hz0 : (x : Int) * 16 + (y : Int) = (z : Int) := by omega
            have hz1 : (z : Int) % 256 = (z : Int) := by omega
            have HZ := Lib.hid (show z < 256 by omega)
            clear HNX HBAD hva hvb hz
            go_wp2_with (refine wpList_index rfl 9 (.tmp 21) (.tmp 23) rfl _ _ (.int .u8 (a.toNat : Int)) rfl rfl (by first | exact HA.out _ | (rw [y1]; exact HA.out _) | (rw [y3]; exact HA.out _) | (rw [y4]; exact HA.out _)) ?_)
            refine (find_ok a _).mono ?_
            rintro e w2 ⟨rfl, rfl⟩
            go_wp2_with (refine wpList_index rfl 9 (.tmp 26) (.tmp 29) rfl _ _ (.int .u8 (b.toNat : Int)) rfl rfl (by first | exact HAB.out _ | (rw [y2]; exact HAB.out _) | (rw [y5]; exact HAB.out _) | (rw [y6]; exact HAB.out _)) ?_)
            refine (find_ok b _).mono ?_
            rintro e w2 ⟨rfl, rfl⟩
            go_wp2_with fail
            go_roundw
            case rel =>
              refine ⟨i + 1, l ++ [UInt8.ofNat z], by omega, by go_num, Lib.hid ⟨HN.out, by rw [List.length_append, HU.out.2]; rfl⟩, Lib.hid ?_, Lib.hid ?_⟩
              · have h1 := fill_set l (m - (i + 1)) (UInt8.ofNat z)
                rw [show m - (i + 1) + 1 = m - i by omega, HU.out.2] at h1
                rw [← h1]
                have e1 : Go.Proofs.YtoekdiefbpnekaaDoor.u8 (UInt8.ofNat z) = .int .u8 (z : Int) := by
                  show Value.int .u8 (((UInt8.ofNat z).toNat : Nat) : Int) = _
                  rw [UInt8.toNat_ofNat', Nat.mod_eq_of_lt (by have := HZ.out; omega)]
                rw [e1]
                exact HB.out.set i _
              · exact HBB.out.setCell (p := ⟨w.heap.size, i, none⟩) (Nat.le_refl _) _
            case measure => simp [intOf]; omega
      · have HT := Lib.hid (show s.data.toList.take (2 * i) = s.data.toList by rw [List.take_of_length_le]; rw [HSL.out]; omega)
        have HI := Lib.hid (show i = m by omega)
        have hi3 : (m : Int) ≤ (i : Int) := by omega
        go_wp2_with fail
        go_ret2
        refine .inl ⟨l, w.heap.size, ?_, ?_, ?_, Nat.le_refl _, HBB.out⟩
        · have := HU.out.1; rw [HT.out] at this; exact this
        · rw [HU.out.2, HI.out]; rfl
        · have h1 := HB.out
          rw [HI.out, Nat.sub_self, List.replicate_zero, List.append_nil] at h1
          exact (Rb.bk h1).more (by have := h1.lt; omega)
end Go.Proofs.YtoekdiefbpnekaaDoor
