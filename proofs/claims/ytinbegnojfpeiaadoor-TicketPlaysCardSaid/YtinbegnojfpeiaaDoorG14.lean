/- Build, Hex, Strs, Proof, Dig, Deci, MinY: texts of this seat, one behind the other. -/
import Derived.Test.YtinbegnojfpeiaaDoorG5
import Derived.Test.YtinbegnojfpeiaaDoorG3
import Derived.Test.YtinbegnojfpeiaaDoorRows
import Derived.Test.YtinbegnojfpeiaaDoorG2
import Derived.Deep.QuietTactic
import Derived.BigQuiet
import Derived.Deep.Cut
import Derived.Deep.CutRange
import Derived.Shelf.Strings.Builder1
import Derived.Test.YtinbegnojfpeiaaDoorShelf
import Derived.Test.YtinbegnojfpeiaaDoorG7
import Derived.Test.YtinbegnojfpeiaaDoorMac
import Derived.WalkKit
import Derived.Lib.Hide
/- A byte put behind a builder that has been written to, or grown. -/
namespace Go.Proofs.YtinbegnojfpeiaaDoor
set_option linter.unusedVariables false
set_option maxRecDepth 100000
set_option linter.unusedSimpArgs false
open Go.RowKit

/-- The builder at block b holds the bytes l. -/
abbrev Bd (B b : Nat) (l : List UInt8) (w : World) : Prop := Lib.BuilderAt 89 5 B b (.pointer (some ⟨b, 0, none⟩)) (Lib.byteCells l) w

set_option maxRecDepth 100000 in
theorem ccheck_ok (b : Nat) (w : World) (h0 : w.cell? ⟨b, 0, none⟩ = some (.pointer (some ⟨b, 0, none⟩))) :
    Calls Tryd.prog 60 #[.pointer (some ⟨b, 0, none⟩)] w fun e w' => e = .returned (.tuple #[]) ∧ w' = w := by
  obtain ⟨j, hj, _⟩ := Option.map_eq_some_iff.1 (show (Tryd.prog.info? 89).map (·.size) = some 2 by kernel_rfl)
  go_enter Tryd.func60, Tryd.ntmps60
  go_wp2
  rw [Lib.run_neq_ptr_same w _ Tryd.underlying87 hj]
  go_wp2
  go_end0
  exact ⟨rfl, rfl⟩

set_option maxHeartbeats 1000000 in
theorem wbyte_ok (B b : Nat) (l : List UInt8) (c : UInt8) (w : World) (h : Bd B b l w) (hlen : l.length + 1 ≤ 140737488355328) (hBw : B ≤ w.heap.size) :
    Calls Tryd.prog 52 #[.pointer (some ⟨b, 0, none⟩), .int .u8 (c.toNat : Int)] w fun e w' => e = .returned .nilIface ∧ Bd B b (l ++ [c]) w' ∧ Below B w w' := by
  obtain ⟨i0, hi, hz0, hz1, hz2⟩ := info_parts bytesInfo
  obtain ⟨hB, v, hbk, hown, hne⟩ := h
  have hbl : (Lib.byteCells l).length = l.length := Lib.byteCells_length l
  have c0 : w.cell? ⟨b, 0, none⟩ = some (.pointer (some ⟨b, 0, none⟩)) := by rw [Lib.cell_of_heap hbk]; rfl
  have c1 : w.cell? ⟨b, 1, none⟩ = some v := by rw [Lib.cell_of_heap hbk]; rfl
  have hlt : b < w.heap.size := lt_of_block hbk
  go_enter Tryd.func52, Tryd.ntmps52
  go_wp2_with (go_at_call 60; refine (ccheck_ok b w c0).mono ?_)
  rintro e w1 ⟨rfl, rfl⟩
  go_wp2_with (at_builtin; refine wpList_append_own _ rfl _ _ 50 rfl B 5 i0 (.int .u8 0) 1 1 Tryd.underlying50 hi hz0 hz1 hz2 rfl (by decide) _ _ _ rfl (hown.alloc _) ⟨w1.heap.size, 0, none⟩ 1 1 [.int .u8 (c.toNat : Int)] rfl rfl ?c1 ?c2 ?c3 ?c4 ?c5 ?_)
  case c1 =>
    intro j u hj
    match j, hj with
    | 0, hj => simp at hj; subst hj; simp [Addr.add]
  case c2 => intro u hu; simp at hu; subst hu; rfl
  case c3 => unfold maxLen; omega
  case c4 => omega
  case c5 => simp; omega
  intro v' w2 hown' hgrow _
  have hb2 : w2.heap[b]? = some (.cells #[.pointer (some ⟨b, 0, none⟩), v] 89 (0, 0)) := by
    rw [hgrow.block b (by simp; omega) (fun e => hne e.symm), Lib.alloc_old w1 _ b hlt]
    exact hbk
  have d0 : w2.cell? ⟨b, 0, none⟩ = some (.pointer (some ⟨b, 0, none⟩)) := by rw [Lib.cell_of_heap hb2]; rfl
  have d1 : w2.cell? ⟨b, 1, none⟩ = some v := by rw [Lib.cell_of_heap hb2]; rfl
  have f1 : w2.frozen? ⟨b, 1, none⟩ = false := Lib.frozen_of_heap hb2 1
  have hbel2 : Below B w1 w2 := ((Below.refl B w1).alloc hBw _).grown hgrow (by simp; omega) (fun k hk => (hown.lt k hk).1)
  obtain ⟨g, cap, rfl⟩ : ∃ g cap, v' = .slice (some ⟨g, 0, none⟩) (l.length + 1) cap := by
    rcases hown'.2 with ⟨_, h0⟩ | ⟨g, cap, cur, hv, _⟩
    · omega
    · exact ⟨g, cap, hv⟩
  go_wp2
  go_ret
  refine ⟨rfl, ?_, hbel2.setCell (p := ⟨b, 1, none⟩) hB _⟩
  have := Lib.BuilderAt.put (T := 89) (e := 5) hB hb2 (bs' := Lib.byteCells (l ++ [c])) (by rw [Lib.byteCells_append]; simpa [Lib.byteCells] using hown') (by decide)
  simpa using this
end Go.Proofs.YtinbegnojfpeiaaDoor

/- Hex: bytes in digits. -/
namespace Go.Proofs.YtinbegnojfpeiaaDoor
set_option linter.unusedVariables false
set_option maxRecDepth 100000
set_option linter.unusedSimpArgs false
open Go.RowKit

def digS : ByteArray := ⟨#[48, 49, 50, 51, 52, 53, 54, 55, 56, 57, 97, 98, 99, 100, 101, 102]⟩
theorem digS_at (q : Nat) (h : q < 16) (hs : q < digS.size) : digS[q] = dig q := by
  have : ∀ m : Fin 16, ∀ h : m.val < digS.size, digS[m.val] = dig m.val := by decide
  exact this ⟨q, h⟩ hs
theorem idx_dig (q : Nat) (h : q < 16) (k : IntKind) (u : World) : (Instr.index 9 (.string digS) (.int k (q : Int))).run Tryd.prog u = .ok (.int .u8 ((dig q).toNat : Int)) u := by
  have hs : digS.size = 16 := rfl
  rw [run_index_string u 9 digS k (q : Int) Tryd.underlying9, dif_pos (by rw [hs]; omega)]
  have e : digS[(q : Int).toNat]'(by rw [hs]; omega) = dig q := digS_at q h (by rw [hs]; exact h)
  rw [e]

set_option maxRecDepth 100000 in
set_option maxHeartbeats 1000000 in
theorem hex_ok (A : Option Addr) (n c : Nat) (l : List UInt8) (w : World) (hl : l.length = n) (hn : n ≤ 1099511627776) (hR : Rb w w.heap.size A l) :
    Calls Tryd.prog 44 #[.slice A n c] w fun e w' => e = .returned (.string ⟨(hexB l).toArray⟩) ∧ Below w.heap.size w w' := by
  have HL := Lib.hid hl
  have HR := Lib.hid hR
  clear hl hR
  obtain ⟨n2, hn2⟩ : ∃ k, k = 2 * n := ⟨_, rfl⟩
  have y1 : 2 * (n : Int) = (n2 : Int) := by omega
  have hn3 : n2 ≤ 281474976710656 := by omega
  clear hn2
  go_enter Tryd.func44, Tryd.ntmps44
  go_wp2_with fail
  refine (Tryd.Builder_Grow_fresh_cap w.heap.size w.heap.size n2 _ (Nat.le_refl _) (heap_alloc_new w _) ?_ (by omega)).mono ?_
  · show _ ≤ (w.heap.push _).size; rw [Array.size_push]; omega
  rintro e w1 ⟨rfl, ⟨hB1, hb1⟩, _⟩
  have HB1 := Lib.hid (show Bd w.heap.size w.heap.size (hexB (l.take 0)) w1 from hB1)
  have Hb1 := Lib.hid (show Below w.heap.size w w1 from (show Below w.heap.size w (w.alloc _) by go_grown).trans hb1)
  clear hB1 hb1 y1 hn3
  go_wp2_with fail
  go_loopw [12] (fun v12 wr => ∃ i : Nat, i ≤ n ∧ v12 = .int .i64 i ∧ Hid (Bd w.heap.size w.heap.size (hexB (l.take i)) wr) ∧ Hid (Below w.heap.size w wr)) (fun v12 _ => n - (intOf v12).toNat)
  case atStart => exact ⟨0, by omega, rfl, HB1, Hb1⟩
  case round =>
    obtain ⟨i, hi, rfl, HB, HBB⟩ := hrel
    clear HB1 Hb1
    by_cases hi1 : i < n
    · have hil : i < l.length := by rw [HL.out]; exact hi1
      obtain ⟨b, o, rfl, hb, hc⟩ : ∃ b o, A = some ⟨b, o, none⟩ ∧ b < w.heap.size ∧ wr.cell? ⟨b, o + i, none⟩ = some (.int .u8 ((l[i]).toNat : Int)) := by
        rcases HR.out with h | ⟨b, o, e, hb, hc⟩
        · subst h; simp at hil
        · exact ⟨b, o, e, hb, (HBB.out.cell (p := ⟨b, o + i, none⟩) hb).trans (hc i hil)⟩
      have HT := Lib.hid (hexB_take l i hil)
      have hlt := (l[i]).toNat_lt
      obtain ⟨x, hx⟩ : ∃ x, x = (l[i]).toNat := ⟨_, rfl⟩
      rw [← hx] at hc HT hlt
      clear hx
      obtain ⟨q, hq⟩ : ∃ q, q = x / 16 := ⟨_, rfl⟩
      obtain ⟨r, hr⟩ : ∃ r, r = x % 16 := ⟨_, rfl⟩
      have e1 : (x : Int) / 16 = (q : Int) := by omega
      have e2 : (x : Int) % 16 = (r : Int) := by omega
      have e3 : (q : Int) % 256 = (q : Int) := by omega
      have e4 : (r : Int) % 256 = (r : Int) := by omega
      have HQ := Lib.hid (show q < 16 by omega)
      have HRR := Lib.hid (show r < 16 by omega)
      rw [← hq, ← hr] at HT
      have HLEN := Lib.hid (show (hexB (l.take i)).length + 2 ≤ 140737488355328 by rw [hexB_len, List.length_take]; omega)
      have HSZ := Lib.hid HBB.out.size
      clear hq hr hlt
      go_wp2_with (refine wpList_index rfl 9 (.const (.string digS)) (.tmp 17) rfl _ _ _ rfl rfl (idx_dig q HQ.out _ _) ?_)
      refine (wbyte_ok w.heap.size w.heap.size _ (dig q) _ HB.out (by have := HLEN.out; omega) HSZ.out).mono ?_
      rintro e w2 ⟨rfl, hB2, hb2⟩
      have HB2 := Lib.hid hB2
      have HBB2 := Lib.hid (HBB.out.trans hb2)
      have HSZ2 := Lib.hid HBB2.out.size
      clear hB2 hb2
      go_wp2_with (refine wpList_index rfl 9 (.const (.string digS)) (.tmp 21) rfl _ _ (.int .u8 ((dig r).toNat : Int)) rfl rfl (by first | exact idx_dig r HRR.out _ _ | (rw [e2]; exact idx_dig r HRR.out _ _) | (rw [e2, e4]; exact idx_dig r HRR.out _ _)) ?_)
      refine (wbyte_ok w.heap.size w.heap.size _ (dig r) _ HB2.out (by have := HLEN.out; rw [List.length_append, List.length_singleton]; omega) HSZ2.out).mono ?_
      rintro e w3 ⟨rfl, hB3, hb3⟩
      have HB3 := Lib.hid (show Bd w.heap.size w.heap.size (hexB (l.take (i + 1))) w3 by rw [HT.out]; exact hB3)
      have HBB3 := Lib.hid (HBB2.out.trans hb3)
      clear hB3 hb3
      go_wp2_with fail
      go_roundw
      case rel => exact ⟨i + 1, by omega, by go_num, HB3, HBB3⟩
      case measure => simp [intOf]; omega
    · have HI := Lib.hid (show l.take i = l by rw [List.take_of_length_le]; rw [HL.out]; omega)
      go_wp2_with fail
      refine (Tryd.Builder_String_any w.heap.size w.heap.size (hexB l) _ (Or.inr (by have := HB.out; rw [HI.out] at this; exact this)) HBB.out.size).mono ?_
      rintro e w2 ⟨rfl, hb2⟩
      go_wp2_with fail
      go_ret
      exact ⟨rfl, HBB.out.trans hb2⟩
end Go.Proofs.YtinbegnojfpeiaaDoor

/- Slices of texts that came in. Nothing of the program is named here. -/
namespace Go.Proofs.YtinbegnojfpeiaaDoor
set_option linter.unusedVariables false
set_option maxRecDepth 100000
set_option linter.unusedSimpArgs false
open Go.ChangeShapes Go.WideShapes Go.ChangeAt Go.RowKit

/-- A slice of texts that came in. -/
structure InS (W : World) (A : Option Addr) (l : List ByteArray) (n c : Nat) : Prop where
  len : l.length = n
  cap : n ≤ c
  max : c ≤ maxLen
  at_ : n = 0 ∨ ∃ b o, A = some ⟨b, o, none⟩ ∧ b < W.heap.size ∧ ∀ i, (h : i < l.length) → W.cell? ⟨b, o + i, none⟩ = some (.string l[i])
  small : ∀ x ∈ l, x.size ≤ maxLen

theorem open_strs {H : Type} {enc : TypeId × Value → H} {P : Program} {W : World} {A : Option Addr} {n c : Nat} {t e : TypeId} {d : DataW H} {p : List MemPlace} (ht : P.underlying t = some (.slice e)) (he : P.underlying e = some .string) (hc : P.cellsOf e = 1)
    (h : DataW.Trod enc P W 0 (fun _ => true) true t (.slice A n c) d p) : ∃ l, InS W A l n c := by
  obtain ⟨fuel, hf⟩ := h
  rcases open_strings ht he hc hf with ⟨hcs, _⟩ | ⟨x, ln, cp, ss, hcs, _, hl, hm, hz, _, hcell, hws⟩
  · simp [Value.cells] at hcs
    obtain ⟨rfl, rfl, rfl⟩ := hcs
    exact ⟨[], ⟨rfl, Nat.le_refl _, by unfold maxLen; omega, .inl rfl, fun x hx => by cases hx⟩⟩
  · simp [Value.cells] at hcs
    obtain ⟨rfl, rfl, rfl⟩ := hcs
    have hzl : ss.length = c := by simpa using hz
    refine ⟨ss.take n, ⟨by rw [List.length_take]; omega, hl, hm, ?_, fun y hy => hws y (List.mem_of_mem_take hy)⟩⟩
    by_cases h0 : n = 0
    · exact .inl h0
    · right
      obtain ⟨b, o, spot⟩ := x
      have hc0 := hcell 0 (by omega)
      have hspot : spot = none := by simpa [Addr.add] using World.cell?_spot hc0
      subst hspot
      refine ⟨b, o, rfl, ?_, fun i hi => ?_⟩
      · have := World.block_lt_of_cell? W _ hc0
        rw [add_plain] at this
        exact this
      · have hi' : i < ss.length := by rw [List.length_take] at hi; omega
        have := hcell i hi'
        rw [add_plain] at this
        rw [this]
        simp [List.getD, hi']

end Go.Proofs.YtinbegnojfpeiaaDoor

/- mac.Proof: the proof of words. -/
namespace Go.Proofs.YtinbegnojfpeiaaDoor
set_option linter.unusedVariables false
set_option maxRecDepth 100000
set_option linter.unusedSimpArgs false
open Go.RowKit

theorem textB_none (s : ByteArray) (h : 255 < s.size) : textB s = [] := by unfold textB; rw [if_neg (by omega)]
theorem textB_some (s : ByteArray) (h : s.size ≤ 255) : (textB s).length = s.size + 1 := by
  unfold textB; rw [if_pos h, List.length_cons]; rfl
theorem proofB_long (key : List UInt8) (ws : List ByteArray) (i : Nat) (h : i < ws.length) (h2 : 255 < ws[i].size) : proofB key ws = [] := by
  unfold proofB; rw [if_neg]
  intro h3
  have := h3 ws[i] (List.getElem_mem h)
  omega
theorem proofB_short (key : List UInt8) (ws : List ByteArray) (h : ∀ j, (hj : j < ws.length) → ws[j].size ≤ 255) : proofB key ws = hexB (macB key (textsB ws)) := by
  unfold proofB; rw [if_pos]
  intro x hx
  obtain ⟨j, hj, rfl⟩ := List.mem_iff_getElem.1 hx
  exact h j hj
theorem textsB_part (ws : List ByteArray) (i : Nat) : (textsB (ws.take i)).length ≤ (textsB ws).length := by
  have : textsB ws = textsB (ws.take i) ++ textsB (ws.drop i) := by
    unfold textsB; rw [← List.flatten_append, ← List.map_append, List.take_append_drop]
  rw [this, List.length_append]; omega

/-- A slice of texts, at any world. -/
def Rs (w : World) (B : Nat) (A : Option Addr) (l : List ByteArray) : Prop :=
  l = [] ∨ ∃ b o, A = some ⟨b, o, none⟩ ∧ b < B ∧ ∀ i, (h : i < l.length) → w.cell? ⟨b, o + i, none⟩ = some (.string l[i])
theorem Rs.below {w w' : World} {B B' : Nat} {A : Option Addr} {l : List ByteArray} (h : Rs w B A l) (hb : Below B' w w') (hB : B ≤ B') : Rs w' B A l := by
  rcases h with h | ⟨b, o, e, hlt, hc⟩
  · exact .inl h
  · exact .inr ⟨b, o, e, hlt, fun i hi => (hb.cell (p := ⟨b, o + i, none⟩) (by show b < B'; omega)).trans (hc i hi)⟩
theorem Rs.more {w : World} {B B' : Nat} {A : Option Addr} {l : List ByteArray} (h : Rs w B A l) (hB : B ≤ B') : Rs w B' A l := by
  rcases h with h | ⟨b, o, e, hlt, hc⟩
  · exact .inl h
  · exact .inr ⟨b, o, e, by omega, hc⟩
theorem InS.rs {W : World} {A : Option Addr} {l : List ByteArray} {n c : Nat} (h : InS W A l n c) : Rs W W.heap.size A l := by
  rcases h.at_ with h0 | ⟨b, o, e, hb, hc⟩
  · left; exact List.eq_nil_of_length_eq_zero (by rw [h.len, h0])
  · exact .inr ⟨b, o, e, hb, hc⟩

set_option maxRecDepth 100000 in
set_option maxHeartbeats 4000000 in
theorem proof_ok (A : Option Addr) (n c : Nat) (key : List UInt8) (A' : Option Addr) (n' c' : Nat) (ws : List ByteArray) (w : World) (hl : key.length = n) (hc : n ≤ c) (hmax : c ≤ 9223372036854775807) (hn : n ≤ 1099511627776) (hR : Rb w w.heap.size A key)
    (hl' : ws.length = n') (hn' : n' ≤ 1099511627776) (hR' : Rs w w.heap.size A' ws) (hsm : ∀ x ∈ ws, x.size ≤ 140737488355328) (htx : (textsB ws).length ≤ 549755813888) (hG : Gl w) :
    Calls Tryd.prog 37 #[.slice A n c, .slice A' n' c'] w fun e w' => e = .returned (.string ⟨(proofB key ws).toArray⟩) ∧ Below w.heap.size w w' := by
  have HL := Lib.hid hl
  have HCP := Lib.hid hc
  have HMX := Lib.hid hmax
  have HN := Lib.hid hn
  have HR := Lib.hid hR
  have HL' := Lib.hid hl'
  have HR' := Lib.hid hR'
  have HSM := Lib.hid hsm
  have HTX := Lib.hid htx
  have HG := Lib.hid hG
  clear hl hc hmax hn hR hl' hR' hsm htx hG
  go_enter Tryd.func37, Tryd.ntmps37
  go_wp2_with fail
  go_loopw [12, 5] (fun v12 v5 wr => ∃ (i : Nat) (A2 : Option Addr) (c2 L : Nat), i ≤ n' ∧ v12 = .int .i64 i ∧ v5 = .slice A2 L c2 ∧ Hid ((textsB (ws.take i)).length = L) ∧ Hid (∀ j, (hj : j < ws.length) → j < i → ws[j].size ≤ 255) ∧ Hid (OB wr w.heap.size 5 A2 c2 (textsB (ws.take i))) ∧ Hid (A2 = none → L = 0 ∧ c2 = 0) ∧ Hid (Below w.heap.size w wr)) (fun v12 _ _ => n' - (intOf v12).toNat)
  case atStart => exact ⟨0, none, 0, 0, by omega, rfl, rfl, Lib.hid rfl, Lib.hid (fun j _ h => by omega), Lib.hid (OB.nil _ _ _), Lib.hid (fun _ => ⟨rfl, rfl⟩), Lib.hid (by go_grown)⟩
  case round =>
    obtain ⟨i, A2, c2, L, hi, rfl, rfl, HT, HJ, HO, HNL, HB⟩ := hrel
    by_cases hi1 : i < n'
    · have hi2 : (i : Int) < (n' : Int) := by omega
      have hiw : i < ws.length := by rw [HL'.out]; exact hi1
      obtain ⟨b, o, rfl, hcell⟩ : ∃ b o, A' = some ⟨b, o, none⟩ ∧ wr.cell? ⟨b, o + i, none⟩ = some (.string ws[i]) := by
        rcases HR'.out with h | ⟨b, o, e, hb, hc⟩
        · subst h; simp at hiw
        · exact ⟨b, o, e, (HB.out.cell (p := ⟨b, o + i, none⟩) hb).trans (hc i hiw)⟩
      have HT2 := Lib.hid (textsB_take ws i hiw)
      have HS := Lib.hid (HSM.out ws[i] (List.getElem_mem hiw))
      have HLB := Lib.hid (textsB_part ws (i + 1))
      have HLG := Lib.hid (fun h => proofB_long key ws i hiw h)
      have HJ2 := Lib.hid (show ∀ s : ByteArray, s = ws[i] → s.size ≤ 255 → ∀ j, (hj : j < ws.length) → j < i + 1 → ws[j].size ≤ 255 by
        intro s hs hs2 j hj hji
        by_cases e : j = i
        · subst e; rw [← hs]; exact hs2
        · exact HJ.out j hj (by omega))
      obtain ⟨s, hs⟩ : ∃ s, s = ws[i] := ⟨_, rfl⟩
      rw [← hs] at hcell HT2 HS HLG
      have HJ3 := Lib.hid (HJ2.out s hs)
      clear hs HJ2 hiw
      by_cases hs : s.size ≤ 255
      · have HTL := Lib.hid (textB_some s hs)
        have hts : 0 < (textB s).length := by rw [HTL.out]; omega
        have HTP := Lib.hid hts
        obtain ⟨M, hM⟩ : ∃ M, M = s.size + 1 := ⟨_, rfl⟩
        have HM := Lib.hid hM
        have HMP := Lib.hid (show ((M : Int) == 0) = false by rw [beq_eq_false_iff_ne]; omega)
        have hmp := HMP.out
        have hmp2 : 0 < M := by omega
        rw [← hM] at HTL
        have HSS := Lib.hid hs
        clear hts hM hs
        go_wp2_with fail
        refine (text_ok s _ HS.out).mono ?_
        rintro e w2 ⟨A3, c3, rfl, ho, hb⟩
        rw [HTL.out]
        have HO3 := Lib.hid ho
        have HB3 := Lib.hid hb
        have HA3 := Lib.hid (show A3 = none → M = 0 ∧ c3 = 0 by
          intro h
          obtain ⟨g, e, _⟩ := ho.form (by intro h0; have := HTP.out; rw [h0] at this; simp at this)
          rw [h] at e; cases e)
        have HOO := Lib.hid (show OB w2 w.heap.size 5 A2 c2 (textsB (ws.take i)) from by
          refine ⟨HO.out.1, ?_⟩
          rcases HO.out.2 with hn | ⟨g, cap, cur, hv, hg, hh, r⟩
          · exact .inl hn
          · refine .inr ⟨g, cap, cur, hv, hg, ?_, r⟩
            rw [hb.block g (lt_of_block hh)]
            exact hh)
        clear ho hb
        go_wp2_with (at_builtin; refine wp_app_any rfl (.tmp 21) (.tmp 22) 50 5 rfl Tryd.underlying50 bytesInfo w.heap.size _ _ _ _ rfl HT.out HOO.out (textB s) A3 M _ _ rfl HTL.out HA3.out HO3.out.rb (by have h1 := HLB.out; have h2 := HTX.out; rw [HT2.out, List.length_append] at h1; omega) (by have h1 := HB.out.size; have h2 := HB3.out.size; omega) ?_; intro A4 c4 w4 ho4 hg4 hb4)
        go_roundw
        case rel =>
          refine ⟨i + 1, A4, c4, _, by omega, by go_num, rfl, Lib.hid (by rw [HT2.out]; simp), Lib.hid (HJ3.out HSS.out), Lib.hid (by rw [HT2.out]; exact ho4), Lib.hid ?_, Lib.hid ((HB.out.trans (HB3.out.mono HB.out.size)).trans hb4)⟩
          intro h
          obtain ⟨g, e, _⟩ := ho4.form (by intro h0; have h1 := congrArg List.length h0; rw [List.length_append, HTL.out] at h1; simp at h1; omega)
          rw [h] at e; cases e
        case measure => simp [intOf]; omega
      · have HTL := Lib.hid (textB_none s (by omega))
        have HP := Lib.hid (HLG.out (by omega))
        clear hs HLG HJ3
        go_wp2_with fail
        refine (text_ok s _ HS.out).mono ?_
        rintro e w2 ⟨A3, c3, rfl, ho, hb⟩
        rw [HTL.out]
        have HB3 := Lib.hid hb
        clear hb ho
        go_wp2_with fail
        go_ret
        exact ⟨by rw [HP.out]; rfl, HB.out.trans (HB3.out.mono HB.out.size)⟩
    · have hi3 : i = n' := by omega
      have hi2 : (n' : Int) ≤ (i : Int) := by omega
      have HI3 := Lib.hid (show ws.take i = ws by rw [List.take_of_length_le]; rw [HL'.out]; omega)
      have HPS := Lib.hid (proofB_short key ws (fun j hj => HJ.out j hj (by rw [HL'.out] at hj; omega)))
      rw [HI3.out] at HT HO
      have HLL := Lib.hid (show L ≤ 549755813888 by rw [← HT.out]; exact HTX.out)
      clear hi3
      have HZE := Lib.hid (show (Tryd.prog.info? 68).map (·.size) = some (bcells (macB key (textsB ws))).size by rw [bcells_size, macB_len]; kernel_rfl)
      have HZE2 := Lib.hid (show (bcells (List.replicate 32 0)).size = (bcells (macB key (textsB ws))).size by rw [bcells_size, bcells_size, macB_len, List.length_replicate])
      go_wp2_with fail
      refine (mac_ok A n c key A2 L c2 (textsB ws) _ HL.out HCP.out HMX.out HN.out ((HR.out.below HB.out (Nat.le_refl _)).more HB.out.size) HT.out HLL.out HO.out.rb HNL.out (HG.out.below HB.out HG.out.size)).mono ?_
      rintro e w2 ⟨rfl, hb2⟩
      have HB2 := Lib.hid (HB.out.trans (hb2.mono HB.out.size))
      clear hb2
      go_upto_region 11 with (refine wpList_store_row rfl 68 (.tmp 9) (.tmp 27) rfl w2.heap.size _ rfl rfl 68 _ (zeros_new w2) HZE.out HZE2.out (bcells_one _) ?_)
      refine gen_world (fun u => Bk u w2.heap.size 68 (bcells (macB key (textsB ws))) ∧ Below w.heap.size w u) ⟨(zeros_new w2).setRow _, Below.setRow (HB2.out.alloc HB2.out.size _) _ HB2.out.size _⟩ (fun w3 hw3 => ?_)
      have HK3 := Lib.hid hw3.1
      have HB3 := Lib.hid hw3.2
      clear hw3
      go_wp2_with fail
      refine (hex_ok (some ⟨w2.heap.size, 0, none⟩) 32 32 (macB key (textsB ws)) _ (macB_len _ _) (by omega) (Rb.row HK3.out HK3.out.lt)).mono ?_
      rintro e w4 ⟨rfl, hb4⟩
      go_wp2_with fail
      go_ret
      exact ⟨by rw [HPS.out]; rfl, HB3.out.trans (hb4.mono HB3.out.size)⟩
end Go.Proofs.YtinbegnojfpeiaaDoor

/- num.digits: its contract. -/
namespace Go.Proofs.YtinbegnojfpeiaaDoor
set_option linter.unusedVariables false
set_option maxRecDepth 100000
set_option linter.unusedSimpArgs false
open Go.RowKit


theorem d_nonneg (n b : Nat) : (0 : Int) ≤ (n : Int) / (b : Int) := Int.ediv_nonneg (by omega) (by omega)
theorem d_le (n b k : Nat) (h : n ≤ k) : (n : Int) / (b : Int) ≤ (k : Int) := by
  have : n / b ≤ k := Nat.le_trans (Nat.div_le_self _ _) h
  have e : (n : Int) / (b : Int) = ((n / b : Nat) : Int) := by simp
  rw [e]; omega
theorem d_set {b n m k q : Nat} (h : k < m) (hq : q = n / b ^ k) (hb : 1 ≤ b) (hb2 : b ≤ 128) :
    (dcells b n m k).setIfInBounds (m - 1 - k) (.int .u8 ((q : Int) % (b : Int) % 256)) = dcells b n m (k + 1) := by
  rw [← dcells_set b n m k h, ← hq]
  have h1 : q % b < b := Nat.mod_lt _ (by omega)
  have h2 : (q : Int) % (b : Int) % 256 = ((q % b : Nat) : Int) := by
    have e : (q : Int) % (b : Int) = ((q % b : Nat) : Int) := by simp
    rw [e]; omega
  rw [h2]
theorem m_le {b m : Nat} (hb : 2 ≤ b) (h : b ^ m ≤ 1099511627776) : m + 1 ≤ 41 := by
  have h1 : 2 ^ m ≤ b ^ m := Nat.pow_le_pow_left hb m
  have h2 : (2 : Nat) ^ m ≤ 2 ^ 40 := Nat.le_trans h1 (by simpa using h)
  have := (Nat.pow_le_pow_iff_right (by omega : 1 < 2)).1 h2
  omega

set_option maxHeartbeats 400000 in
theorem digits_ok (n b : Nat) (w : World) (h1 : n ≤ 1099511627776) (hb : 2 ≤ b) (hb2 : b ≤ 128) :
    Calls Tryd.prog 45 #[.int .i64 n, .int .i64 b] w fun e w' => ∃ L : Nat, 1 ≤ L ∧ L ≤ 41 ∧ n < b ^ L ∧ (L = 1 ∨ b ^ (L - 1) ≤ n) ∧
      e = .returned (.slice (some ⟨w.heap.size, 0, none⟩) L L) ∧ w' = w.alloc (.cells (dcells b n L L) 5) := by
  have hmk := fun (m : Nat) (hm : m ≤ 41) => mk_bytes (P := Tryd.prog) w 50 5 Tryd.underlying50 bytesInfo m (by omega) (dcells b n m 0) (dcells_none b n m)
  have d0 : (0 : Int) ≤ (n : Int) / (b : Int) := d_nonneg n b
  have d00 : (n : Int) / (b : Int) ≤ 1099511627776 := d_le n b _ h1
  go_enter Tryd.func45, Tryd.ntmps45
  go_wp2
  go_loop [5, 6] (fun v5 v6 => ∃ m r : Nat, 1 ≤ m ∧ m ≤ 41 ∧ (m = 1 ∨ b ^ (m - 1) ≤ n) ∧ v5 = .int .i64 m ∧ r ≤ 1099511627776 ∧ Hid (r = n / b ^ m) ∧ v6 = .int .i64 (r : Int)) (fun _ v6 => (intOf v6).toNat)
  case atStart => exact ⟨1, n / b, by omega, by omega, .inl rfl, rfl, Nat.le_trans (Nat.div_le_self _ _) h1, Lib.hid (by simp), by simp⟩
  case round =>
    obtain ⟨m, r, hm1, hm2, hm3, rfl, hr, Hr, rfl⟩ := hrel
    have d1 : (0 : Int) ≤ (r : Int) / (b : Int) := d_nonneg r b
    have d2 : (r : Int) / (b : Int) ≤ 1099511627776 := d_le r b _ hr
    by_cases hz : 0 < r
    · go_wp2
      go_round
      case rel =>
        have h40 : b ^ m ≤ n := by
          have := Hr.out; rw [this] at hz
          exact (Nat.div_pos_iff.1 hz).2
        exact ⟨m + 1, r / b, by omega, m_le hb (Nat.le_trans h40 h1), .inr h40, by go_num, Nat.le_trans (Nat.div_le_self _ _) hr, Lib.hid (by rw [Hr.out, Nat.div_div_eq_div_mul, Nat.pow_succ]), by simp⟩
      case measure =>
        simp [intOf]
        exact Nat.div_lt_self hz (by omega)
    · have hlt : Hid (n < b ^ m) := by
        have := Hr.out
        have h0 : n / b ^ m = 0 := by omega
        exact Lib.hid ((Nat.div_eq_zero_iff_lt (Nat.pow_pos (by omega))).1 h0)
      clear Hr
      go_wp2
      go_loopw [0, 28] (fun v0 v28 wr => ∃ k q : Nat, k ≤ m ∧ v28 = .int .i64 k ∧ q ≤ 1099511627776 ∧ Hid (q = n / b ^ k) ∧ v0 = .int .i64 (q : Int) ∧ wr = w.alloc (.cells (dcells b n m k) 5)) (fun _ v28 _ => m - (intOf v28).toNat)
      case atStart => exact ⟨0, n, by omega, rfl, h1, Lib.hid (by simp), rfl, rfl⟩
      case round =>
        obtain ⟨k, q, hk, rfl, hq, Hq, rfl, rfl⟩ := hrel
        clear d1 d2
        have d1 : (0 : Int) ≤ (q : Int) / (b : Int) := d_nonneg q b
        have d2 : (q : Int) / (b : Int) ≤ 1099511627776 := d_le q b _ hq
        by_cases hkm : k < m
        · have hcell : (dcells b n m k)[m - 1 - k]? = some (.int .u8 0) := by
            rw [dcells_at _ _ _ _ _ (by omega), if_neg (by omega)]
          go_wp2
          go_roundw
          case rel =>
            exact ⟨k + 1, q / b, by omega, by go_num, Nat.le_trans (Nat.div_le_self _ _) hq, Lib.hid (by rw [Hq.out, Nat.div_div_eq_div_mul, Nat.pow_succ]), by simp, by rw [d_set hkm Hq.out (by omega) hb2]⟩
          case measure => simp [intOf]; omega
        · have ekm : k = m := by omega
          subst ekm
          go_wp2
          go_ret
          exact ⟨k, hm1, hm2, hlt.out, hm3, rfl, rfl⟩

set_option maxHeartbeats 400000 in
theorem digits_none (n b : Int) (w : World) (h1 : n < 0 ∨ 1099511627776 < n) :
    Calls Tryd.prog 45 #[.int .i64 n, .int .i64 b] w fun e w' => e = .returned (.slice none 0 0) ∧ w = w' := by
  rcases h1 with h1 | h1
  · go_enter Tryd.func45, Tryd.ntmps45
    go_wp2
    go_ret
    exact ⟨rfl, rfl⟩
  · have h2 : ¬ n < 0 := by omega
    go_enter Tryd.func45, Tryd.ntmps45
    go_wp2
    go_ret
    exact ⟨rfl, rfl⟩

theorem dmark_set {a n b L k d : Nat} (h : k < L) (hd : d = n / b ^ (L - 1 - k) % b) : (pcells a n b L k).setIfInBounds k (.int .u8 ((d : Int) + (a : Int))) = pcells a n b L (k + 1) := by
  rw [← pcells_set a n b L k h, ← hd]; simp
theorem dmark_at {a n b L k d : Nat} (h : k < L) (hd : d = n / b ^ (L - 1 - k) % b) : (pcells a n b L k)[k]? = some (.int .u8 (d : Int)) := by
  rw [pcells_at _ _ _ _ _ _ h, if_neg (by omega), ← hd]

end Go.Proofs.YtinbegnojfpeiaaDoor

/- num.Decimal: its contracts. -/
namespace Go.Proofs.YtinbegnojfpeiaaDoor
set_option linter.unusedVariables false
set_option maxRecDepth 100000
set_option linter.unusedSimpArgs false
open Go.RowKit

set_option maxHeartbeats 400000 in
theorem dec_ok (n : Nat) (w : World) (h1 : n ≤ 1099511627776) :
    Calls Tryd.prog 38 #[.int .i64 n] w fun e w' => e = .returned (.string ⟨(decB n).toArray⟩) ∧ Below w.heap.size w w' := by
  go_enter Tryd.func38, Tryd.ntmps38
  go_wp2_with fail
  refine (digits_ok n 10 _ h1 (by omega) (by omega)).mono ?_
  rintro e w' ⟨L, hL1, hL2, hlt, hge, rfl, rfl⟩
  have hfin := Lib.hid (And.intro (pcells_dec n L hL1 hlt hge) (decB_length n L hL1 hlt hge))
  clear hlt hge
  go_wp2_with fail
  go_loopw [9] (fun v9 wr => ∃ k : Nat, k ≤ L ∧ v9 = .int .i64 k ∧ wr = w.alloc (.cells (pcells 48 n 10 L k) 5)) (fun v9 _ => L - (intOf v9).toNat)
  case atStart => exact ⟨0, by omega, rfl, by rw [pcells_zero]⟩
  case round =>
    obtain ⟨k, hk, rfl, rfl⟩ := hrel
    by_cases hkL : k < L
    · obtain ⟨d, hd⟩ : ∃ d, d = n / 10 ^ (L - 1 - k) % 10 := ⟨_, rfl⟩
      have hd2 : d < 10 := by rw [hd]; exact Nat.mod_lt _ (by omega)
      have hcell := dmark_at (a := 48) (b := 10) (n := n) (d := d) (by omega : k < L) hd
      have Hd := Lib.hid hd
      clear hd
      go_wp2
      go_roundw
      case rel => exact ⟨k + 1, by omega, by go_num, by rw [← dmark_set (by omega) Hd.out]; rfl⟩
      case measure => simp [intOf]; omega
    · have hk2 : k = L := by omega
      rw [hk2, hfin.out.1]
      clear hk2
      have hst := str_of (P := Tryd.prog) (Rb.new w 5 (decB n)) 50 5 9 Tryd.underlying50 Tryd.underlying5 Tryd.underlying9 L L hfin.out.2
      go_wp2
      go_ret
      exact ⟨rfl, by go_grown⟩

set_option maxHeartbeats 400000 in
theorem dec_none (n : Int) (w : World) (h1 : n < 0 ∨ 1099511627776 < n) :
    Calls Tryd.prog 38 #[.int .i64 n] w fun e w' => e = .returned (.string ⟨#[]⟩) ∧ w = w' := by
  have hst := str_of (P := Tryd.prog) (Rb.nil w 0 none) 50 5 9 Tryd.underlying50 Tryd.underlying5 Tryd.underlying9 0 0 rfl
  go_enter Tryd.func38, Tryd.ntmps38
  go_wp2_with fail
  refine (digits_none n 10 _ h1).mono ?_
  rintro e w' ⟨rfl, rfl⟩
  go_wp2
  go_rounds 1
  go_ret
  exact ⟨rfl, rfl⟩
end Go.Proofs.YtinbegnojfpeiaaDoor

/- min as one operation of a region that draws its order. -/
namespace Go.Proofs.YtinbegnojfpeiaaDoor
set_option linter.unusedVariables false
set_option maxRecDepth 100000
set_option linter.unusedSimpArgs false
open Go.RowKit

theorem yieldsIf_min {P : Program} {ops : Array Oper} {S : World → Prop} {oi : Oper} {a : Act} (hw : Region.wanted oi (yielded ops a.tmps) = true) (x y : Operand) (t : TypeId) (ho : oi.op = .call { callee := .builtin .min, args := #[x, y], argTypes := #[t, t] }) (u v m : Int) (hx : a.eval x = .int .i64 u) (hy : a.eval y = .int .i64 v) (hm : min u v = m) : YieldsIf P ops S oi (.int .i64 m) a :=
  .inl ⟨hw, fun w _ => by
    have e : (if v < u then v else u) = min u v := by split <;> omega
    have hr : (Builtin.min_ #[t, t] oi.type #[.int .i64 u, .int .i64 v]).run P w = .ok (.int .i64 (min u v)) w := by rw [← e]; simp [Builtin.min_, Builtin.min2]
    unfold execOp
    simp only [ho, resolve, invoke, builtin, Sem.run_bind, Sem.run_pure, Result.andThen_ok, List.map_toArray, List.map_cons, List.map_nil, hx, hy, hr, hm]⟩
end Go.Proofs.YtinbegnojfpeiaaDoor
