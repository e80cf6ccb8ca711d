/- The walk of DigestDigits. -/
import Derived.Test.YtjgapkbobmbhbaaDoorDHead
import Derived.Test.YtjgapkbobmbhbaaDoorOpen
namespace Go.Proofs.YtjgapkbobmbhbaaDoor
set_option linter.unusedVariables false
set_option linter.unusedSimpArgs false
open Go.RowKit

theorem dig_low (n : Nat) (h : n < 10) : (dig n).toNat = 48 + n := by
  have : ∀ m : Fin 10, (dig m.val).toNat = 48 + m.val := by decide
  exact this ⟨n, h⟩
theorem dig_high (n : Nat) (h : 10 ≤ n) (h2 : n < 16) : (dig n).toNat = 87 + n := by
  have : ∀ m : Fin 16, 10 ≤ m.val → (dig m.val).toNat = 87 + m.val := by decide
  exact this ⟨n, h2⟩ h
theorem size_list (l : List UInt8) : (⟨l.toArray⟩ : ByteArray).size = l.length := by simp [ByteArray.size]

set_option maxRecDepth 100000 in
set_option maxHeartbeats 2000000 in
theorem walk_DigestDigits (A : Option Addr) (l : List UInt8) (n c : Nat) (W : World) (w0 : InB W A l n c) (hG : Gl W) :
    Calls Tryd.prog 8 #[.slice A n c] W fun e w' => e = .returned (.bool true) ∧ Below W.heap.size W w' := by
  have HI := Lib.hid w0
  have HG := Lib.hid hG
  have hcap := w0.cap
  have hmax := w0.max
  unfold maxLen at hmax
  clear w0 hG
  by_cases g1 : 9000 < n
  · go_enter Tryd.func8, Tryd.ntmps8
    go_wp2_with fail
    refine (dhead_ok _ HG.out).mono ?_
    rintro e w1 ⟨rfl, hb1⟩
    go_wp2_with fail
    go_ret
    exact ⟨rfl, hb1⟩
  have HN := Lib.hid (show (⟨(hexB l).toArray⟩ : ByteArray).size = 2 * n by rw [size_list, hexB_len, HI.out.len])
  obtain ⟨s, hs⟩ : ∃ s : ByteArray, s = ⟨(hexB l).toArray⟩ := ⟨_, rfl⟩
  have HS := Lib.hid hs
  rw [← hs] at HN
  have hns : (s.size : Int) = 2 * (n : Int) := by have := HN.out; omega
  go_enter Tryd.func8, Tryd.ntmps8
  go_wp2_with fail
  refine (dhead_ok _ HG.out).mono ?_
  rintro e w1 ⟨rfl, hb1⟩
  have HB1 := Lib.hid hb1
  clear hb1
  go_wp2_with fail
  refine (hex_ok A n c l _ HI.out.len (by omega) ((HI.out.rb.below HB1.out (Nat.le_refl _)).more HB1.out.size)).mono ?_
  rintro e w2 ⟨rfl, hb2⟩
  have HB2 := Lib.hid (HB1.out.trans (hb2.mono HB1.out.size))
  clear hb2
  rw [← hs]
  clear hs
  go_wp2_with fail
  go_loopw [5] (fun v5 wr => ∃ i : Nat, i ≤ n ∧ v5 = .int .i64 i ∧ Hid (Below W.heap.size W wr)) (fun v5 _ => n - (intOf v5).toNat)
  case atStart => exact ⟨0, by omega, rfl, HB2⟩
  case round =>
    obtain ⟨i, hi, rfl, HBB⟩ := hrel
    by_cases hi1 : i < n
    · have hil : i < l.length := by rw [HI.out.len]; exact hi1
      obtain ⟨b, o, rfl, hb, hc⟩ : ∃ b o, A = some ⟨b, o, none⟩ ∧ b < W.heap.size ∧ wr.cell? ⟨b, o + i, none⟩ = some (.int .u8 ((l[i]).toNat : Int)) := by
        rcases HI.out.rb with h | ⟨b, o, e, hb, hc⟩
        · subst h; simp at hil
        · exact ⟨b, o, e, hb, (HBB.out.cell (p := ⟨b, o + i, none⟩) hb).trans (hc i hil)⟩
      have hx0 : (l.getD i 0) = l[i] := by rw [List.getD, List.getElem?_eq_getElem hil, Option.getD_some]
      have hat := hexB_at l i hil
      rw [hx0] at hat
      have hlt := (l[i]).toNat_lt
      obtain ⟨x, hx⟩ : ∃ x, x = (l[i]).toNat := ⟨_, rfl⟩
      rw [← hx] at hc hat hlt
      clear hx hx0
      have HX := Lib.hid (show ∀ k, k < 2 → ∃ dv p : Nat, p = 2 * i + k ∧ dv < 16 ∧ (k = 0 → dv = x / 16) ∧ (k = 1 → dv = x % 16) ∧ ∀ u, (Instr.index 9 (.string s) (.int .i64 (p : Int))).run Tryd.prog u = .ok (.int .u8 ((dig dv).toNat : Int)) u by
        intro k hk
        obtain rfl | rfl : k = 0 ∨ k = 1 := by omega
        · refine ⟨x / 16, 2 * i + 0, rfl, by omega, fun _ => rfl, (fun h => by omega), fun u => ?_⟩
          have := idx_str s (2 * i + 0) (by rw [HN.out]; omega) u
          rw [this]
          have h2 : s.data.toList.getD (2 * i + 0) 0 = dig (x / 16) := by rw [HS.out]; exact hat.1
          rw [h2]
        · refine ⟨x % 16, 2 * i + 1, rfl, by omega, (fun h => by omega), fun _ => rfl, fun u => ?_⟩
          have := idx_str s (2 * i + 1) (by rw [HN.out]; omega) u
          rw [this]
          have h2 : s.data.toList.getD (2 * i + 1) 0 = dig (x % 16) := by rw [HS.out]; exact hat.2
          rw [h2])
      clear hat
      have hi3 : (i : Int) < (n : Int) := by omega
      have HXC := Lib.hid (show IntKind.i64.wrap (x : Int) = (x : Int) by rw [IntKind.wrap_i64]; omega)
      have HC := Lib.hid hc
      clear hc
      go_wp2_with fail
      go_loopw [7, 6] (fun v7 v6 wr2 => ∃ k m : Nat, k ≤ 2 ∧ v7 = .int .i64 k ∧ v6 = .int .i64 m ∧ Hid ((k = 0 → m = 0) ∧ (k = 1 → m = x / 16) ∧ (k = 2 → m = x)) ∧ wr2 = wr) (fun v7 _ _ => 2 - (intOf v7).toNat)
      case atStart => exact ⟨0, 0, by omega, rfl, rfl, Lib.hid ⟨fun _ => rfl, (fun h => by omega), (fun h => by omega)⟩, rfl⟩
      case round =>
        obtain ⟨k, m, hk, rfl, rfl, HM, rfl⟩ := hrel
        by_cases hk2 : k < 2
        · obtain ⟨dv, p, hp, hd16, hd0, hd1, hidx⟩ := HX.out k hk2
          have HIX := Lib.hid hidx
          have HNX := Lib.hid (show (k + 1 = 0 → 16 * m + dv = 0) ∧ (k + 1 = 1 → 16 * m + dv = x / 16) ∧ (k + 1 = 2 → 16 * m + dv = x) by
            refine ⟨(fun h => by omega), (fun h => ?_), (fun h => ?_)⟩
            · have h1 := HM.out.1 (by omega); have h2 := hd0 (by omega); omega
            · have h1 := HM.out.2.1 (by omega); have h2 := hd1 (by omega); omega)
          have hm16 : m < 16 := by
            obtain rfl | rfl : k = 0 ∨ k = 1 := by omega
            · have := HM.out.1 rfl; omega
            · have := HM.out.2.1 rfl; omega
          have hk3 : (k : Int) < 2 := by omega
          obtain ⟨i2, hi2⟩ : ∃ i2, i2 = 2 * i := ⟨_, rfl⟩
          have y3 : 2 * (i : Int) = (i2 : Int) := by omega
          obtain ⟨y4, y5⟩ := iwrap (2 * (i : Int)) i2 y3 (by omega)
          have y0 : (i2 : Int) + (k : Int) = (p : Int) := by omega
          obtain ⟨y1, y2⟩ := iwrap ((i2 : Int) + (k : Int)) p y0 (by omega)
          obtain ⟨z, hz⟩ : ∃ z, z = 16 * m + dv := ⟨_, rfl⟩
          have z0 : 16 * (m : Int) + (dv : Int) = (z : Int) := by omega
          have HZ := Lib.hid hz
          have HMM := Lib.hid (show wrap64 (wrap64 (16 * (m : Int)) + (dv : Int)) = (z : Int) by
            rw [(iwrap (16 * (m : Int)) (16 * m) (by omega) (by omega)).2]
            exact (iwrap _ z (by omega) (by omega)).2)
          rw [← hz] at HNX
          obtain ⟨cc, hcc⟩ : ∃ cc, cc = (dig dv).toNat := ⟨_, rfl⟩
          rw [← hcc] at HIX
          clear hz hp hd0 hd1 hidx hi2
          by_cases hdv : dv < 10
          · have h1 := dig_low dv hdv
            have c1 : (cc : Int) < 97 := by omega
            have c2 : (cc : Int) ≤ 57 := by omega
            have c3 : (cc : Int) - 48 = (dv : Int) := by omega
            have c4 : (dv : Int) ≤ 15 := by omega
            have c5 : IntKind.i64.wrap (cc : Int) = (cc : Int) := by rw [IntKind.wrap_i64]; omega
            clear h1 hcc hcap hmax hil hlt hi hb hk hd16 hm16 hdv g1 hns hi1
            go_wp2_with ((with_reducible show wpList _ _ _ _ _ _); refine wpList_index rfl 9 (.tmp 33) (.tmp 37) rfl (.string s) (.int .i64 (p : Int)) (.int .u8 (cc : Int)) rfl (by show Value.int .i64 _ = _; first | (with_reducible rfl) | rw [y1] | rw [y2] | rw [y0]) (HIX.out _) ?_)
            go_roundw
            case rel => exact ⟨k + 1, z, by omega, by go_num, congrArg (Value.int .i64) HMM.out, HNX, trivial⟩
            case measure => simp [intOf]; omega
          · have h1 := dig_high dv (by omega) hd16
            have c1 : (97 : Int) ≤ (cc : Int) := by omega
            have c2 : (57 : Int) < (cc : Int) := by omega
            have c3 : (cc : Int) - 97 + 10 = (dv : Int) := by omega
            have c4 : (dv : Int) ≤ 15 := by omega
            have c5 : IntKind.i64.wrap (cc : Int) = (cc : Int) := by rw [IntKind.wrap_i64]; omega
            have c6 : (cc : Int) ≤ 102 := by omega
            clear h1 hcc hcap hmax hil hlt hi hb hk hd16 hm16 hdv g1 hns hi1
            go_wp2_with ((with_reducible show wpList _ _ _ _ _ _); refine wpList_index rfl 9 (.tmp 33) (.tmp 37) rfl (.string s) (.int .i64 (p : Int)) (.int .u8 (cc : Int)) rfl (by show Value.int .i64 _ = _; first | (with_reducible rfl) | rw [y1] | rw [y2] | rw [y0]) (HIX.out _) ?_)
            go_roundw
            case rel => exact ⟨k + 1, z, by omega, by go_num, congrArg (Value.int .i64) HMM.out, HNX, trivial⟩
            case measure => simp [intOf]; omega
        · have hmx : m = x := HM.out.2.2 (by omega)
          subst hmx
          have hk3 : (2 : Int) ≤ (k : Int) := by omega
          have hc := HC.out
          go_wp2_with fail
          go_roundw
          case rel => exact ⟨i + 1, by omega, by go_num, HBB⟩
          case measure => simp [intOf]; omega
    · have hi3 : (n : Int) ≤ (i : Int) := by omega
      go_wp2_with fail
      go_ret
      exact ⟨rfl, HBB.out⟩
end Go.Proofs.YtjgapkbobmbhbaaDoor
