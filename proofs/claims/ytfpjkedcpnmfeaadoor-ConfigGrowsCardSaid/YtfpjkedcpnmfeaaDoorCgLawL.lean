/- ConfigLines: the walk. -/
import Derived.Test.YtfpjkedcpnmfeaaDoorCgH
import Derived.Test.YtfpjkedcpnmfeaaDoorM3
namespace Go.Proofs.YtfpjkedcpnmfeaaDoor
set_option linter.unusedVariables false
set_option linter.unusedSimpArgs false
open Go.RowKit

theorem cnat_u16 (a : Int) (h : (Lit.int .u16 a).wf = true) : ∃ v : Nat, v < 65536 ∧ a = (v : Int) := by
  have hmin : IntKind.u16.min = 0 := by decide
  have hmax : IntKind.u16.max = 65535 := by decide
  simp only [Lit.wf, Bool.and_eq_true, decide_eq_true_eq, hmin, hmax] at h
  exact ⟨a.toNat, by omega, by omega⟩
theorem cnat_u8 (a : Int) (h : (Lit.int .u8 a).wf = true) : ∃ v : Nat, v < 256 ∧ a = (v : Int) := by
  have hmin : IntKind.u8.min = 0 := by decide
  have hmax : IntKind.u8.max = 255 := by decide
  simp only [Lit.wf, Bool.and_eq_true, decide_eq_true_eq, hmin, hmax] at h
  exact ⟨a.toNat, by omega, by omega⟩
theorem bs_extract0 (l : List UInt8) (i : Nat) : (bs l).extract 0 i = bs (l.take i) := by
  apply ByteArray.ext
  rw [ByteArray.data_extract]
  show (l.toArray).extract 0 i = (l.take i).toArray
  simp
/-- Parse, whatever it tells: an error, or a configuration. -/
theorem parse_ways (s : ByteArray) : (∃ (k n : Nat), (k = 2 ∨ k = 91) ∧ ∀ u, Calls Tryd.prog 12 #[.string s] u fun e u' => e = .returned (.tuple #[.agg #[.int .i64 0, .int .i64 0, .int .i64 0, .int .i64 0, .slice none 0 0], .int .i64 (k : Int), .int .i64 (n : Int)]) ∧ Below u.heap.size u u') ∨
    (s.size ≤ 4096 ∧ ∃ c, parseC s = .ok c) := by
  by_cases hs : s.size ≤ 4096
  · cases hp : parseC s with
    | error n => exact .inl ⟨91, n, .inr rfl, fun u => (cparse_ok s u).mono fun e u' hh => by
        obtain ⟨h1, h2⟩ := parE_err hh hs hp
        exact ⟨h2, h1⟩⟩
    | ok c => exact .inr ⟨hs, c, rfl⟩
  · refine .inl ⟨2, 0, .inl rfl, fun u => (cparse_ok s u).mono fun e u' hh => ?_⟩
    obtain ⟨h1, h2⟩ := hh
    rcases h2 with ⟨_, h2⟩ | ⟨h2, _⟩
    · exact ⟨h2, h1⟩
    · exact absurd h2 hs
/-- Parse of a text that has a configuration. -/
theorem parse_get (s : ByteArray) (hs : s.size ≤ 4096) {c : Cg} (hp : parseC s = .ok c) (u : World) : Calls Tryd.prog 12 #[.string s] u fun e u' => ∃ (a0 a1 a2 a3 : Int) (ts : List Tv) (A : Option Addr) (k : Nat), e = .returned (.tuple #[.agg #[.int .i64 a0, .int .i64 a1, .int .i64 a2, .int .i64 a3, .slice A ts.length k], .int .i64 0, .int .i64 0]) ∧ Cv.cg ⟨a0, a1, a2, a3, ts, A, k⟩ = c ∧ RC u' ⟨a0, a1, a2, a3, ts, A, k⟩ ∧ Below u.heap.size u u' :=
  (cparse_ok s u).mono fun e u' hh => by
    obtain ⟨h1, ⟨a0, a1, a2, a3, ts, A, k⟩, h2, h3, h4⟩ := parE_get hh hs hp
    exact ⟨a0, a1, a2, a3, ts, A, k, h4, h2, h3, h1⟩
theorem parse_bad (s : ByteArray) (hs : s.size ≤ 4096) {n : Nat} (hp : parseC s = .error n) (u : World) : Calls Tryd.prog 12 #[.string s] u fun e u' => e = .returned (.tuple #[.agg #[.int .i64 0, .int .i64 0, .int .i64 0, .int .i64 0, .slice none 0 0], .int .i64 91, .int .i64 (n : Int)]) ∧ Below u.heap.size u u' :=
  (cparse_ok s u).mono fun e u' hh => by
    obtain ⟨h1, h2⟩ := parE_err hh hs hp
    exact ⟨h2, h1⟩

set_option maxRecDepth 100000 in
set_option maxHeartbeats 8000000 in
theorem walk_ConfigLines (s : ByteArray) (at0 : Int) (W : World) (ws : s.size ≤ maxLen) (wa : (Lit.int .u16 at0).wf = true) (hG : True) :
    Calls Tryd.prog 4 #[.string s, .int .u16 at0] W fun e w' => e = .returned (.bool true) ∧ Below W.heap.size W w' := by
  obtain ⟨v, hv, rfl⟩ := cnat_u16 at0 wa
  clear wa
  unfold maxLen at ws
  rcases parse_ways s with ⟨ke, ne, hke, HP⟩ | ⟨hs, c, hp⟩
  · have HPE := Lib.hid HP
    have hne : ((ke : Int) != 0) = true := by rcases hke with rfl | rfl <;> rfl
    clear HP hke
    by_cases h5 : (s.size : Int) > 5000
    all_goals
      go_enter Tryd.func4, Tryd.ntmps4
      go_wp2_with (first
        | (go_at_call 8; refine (chead_ok _).mono ?_; rintro e w1 ⟨rfl, hb1⟩)
        | (go_at_call 12; refine (HPE.out _).mono ?_; rintro e w2 ⟨rfl, hb2⟩; have HB2 := Lib.hid (hb1.trans (hb2.mono hb1.size)); clear hb1 hb2))
      go_ret
      exact ⟨rfl, HB2.out.alloc HB2.out.size _⟩
  · obtain ⟨S, rfl⟩ : ∃ S, s = bs S := ⟨s.data.toList, (bs_of s).symm⟩
    rw [bs_size] at hs
    have hS0 : S ≠ [] := by rintro rfl; cases hp
    obtain ⟨N, hN⟩ : ∃ N, S.length = N := ⟨_, rfl⟩
    have hNp : 0 < N := by rw [← hN]; exact List.length_pos_iff.2 hS0
    obtain ⟨k, hk⟩ : ∃ k, v % N = k := ⟨_, rfl⟩
    have hkN : k < N := by rw [← hk]; exact Nat.mod_lt _ hNp
    have hk9 : k ≤ 5000 := by omega
    have HL := Lib.hid (lines_begin hp k (by omega))
    have HPG := Lib.hid (fun u => parse_get (bs S) (by rw [bs_size]; exact hs) hp u)
    have HPB := Lib.hid (fun (n : Nat) (h : parseC (bs (S.take k)) = .error n) u => parse_bad (bs (S.take k)) (by rw [bs_size, List.length_take]; omega) h u)
    have HPO := Lib.hid (fun (d : Cg) (h : parseC (bs (S.take k)) = .ok d) u => parse_get (bs (S.take k)) (by rw [bs_size, List.length_take]; omega) h u)
    have z1 : (v : Int) % (N : Int) = (k : Int) := by rw [← hk]; exact (Int.natCast_emod v N).symm
    have z2 : (v : Int).tmod (N : Int) = (k : Int) := by rw [Int.tmod_eq_emod_of_nonneg (by omega)]; exact z1
    have hsz : (bs S).size = N := by rw [bs_size, hN]
    have h5 : decide ((5000 : Int) < (N : Int)) = false := by simp; omega
    have hn0 : ((N : Int) == 0) = false := by rw [beq_eq_false_iff_ne]; omega
    obtain ⟨z0, hz0⟩ : ∃ b, ((k : Int) == 0) = b := ⟨_, rfl⟩
    have HZ0 := Lib.hid (show decide (k = 0) = z0 by rw [← hz0, Bool.eq_iff_iff]; simp)
    have HSL := Lib.hid hN
    obtain ⟨B, hB⟩ : ∃ B, bs S = B := ⟨_, rfl⟩
    rw [hB] at hsz HPG ⊢
    have HBS := Lib.hid hB
    clear hp hk z1 hN hS0 hB ws
    go_enter Tryd.func4, Tryd.ntmps4
    go_wp2_with (first
      | (go_at_call 8; refine (chead_ok _).mono ?_; rintro e w1 ⟨rfl, hb1⟩)
      | (go_at_call 12; refine (HPG.out _).mono ?_; rintro e w2 ⟨a0, a1, a2, a3, ts, A, kk, rfl, _, _, hb2⟩; have HB2 := Lib.hid ((hb1.trans (hb2.mono hb1.size)).alloc (hb1.trans (hb2.mono hb1.size)).size (.cells #[.int .i64 a0, .int .i64 a1, .int .i64 a2, .int .i64 a3, .slice A ts.length kk] 24)); clear hb1 hb2))
    go_loopw [10, 11, 12] (fun v10 v11 v12 wr => ∃ (i n : Nat) (wh : Bool), i ≤ k ∧ n ≤ i ∧ v10 = .int .i64 (n : Int) ∧ v11 = .bool wh ∧ v12 = .int .i64 (i : Int) ∧ Hid (n = cnt10 (S.take i)) ∧ Hid (wh = if i = 0 then decide (k = 0) else decide (S.getD (i - 1) 0 = 10)) ∧ Hid (Below W.heap.size W wr)) (fun _ _ v12 _ => k - (intOf v12).toNat)
    case atStart => exact ⟨0, 0, z0, by omega, by omega, rfl, rfl, rfl, Lib.hid rfl, Lib.hid (by rw [if_pos rfl]; exact HZ0.out.symm), HB2⟩
    case round =>
      obtain ⟨i, n, wh, hi, hni, rfl, rfl, rfl, HC, HW, HB⟩ := hrel
      by_cases hi1 : i < k
      · have hi2 : (i : Int) < (k : Int) := by omega
        obtain ⟨x, hx⟩ : ∃ x, (B.data.toList.getD i 0).toNat = x := ⟨_, rfl⟩
        have hix := sidx B i x (by omega) hx wr
        obtain ⟨b, hb⟩ : ∃ b, decide (S.getD i 0 = 10) = b := ⟨_, rfl⟩
        have hxS : (S.getD i 0).toNat = x := by rw [← hx, ← HBS.out, bs_data]
        have hbx : ((x : Int) == 10) = b := by
          rw [← hb, Bool.eq_iff_iff, beq_iff_eq, decide_eq_true_iff, ← hxS]
          constructor
          · intro h
            apply UInt8.toNat_inj.1
            show _ = 10
            omega
          · intro h; rw [h]; rfl
        have HCN := Lib.hid (show cnt10 (S.take (i + 1)) = n + (if b = true then 1 else 0) by
          rw [List.take_add_one, List.getElem?_eq_getElem (by rw [HSL.out]; omega)]
          have h1 := HC.out
          unfold cnt10 at *
          rw [List.count_append, ← h1, ← hb]
          have e : S.getD i 0 = S[i]'(by rw [HSL.out]; omega) := by rw [List.getD_eq_getElem?_getD, List.getElem?_eq_getElem (by rw [HSL.out]; omega)]; rfl
          rw [e]
          simp [List.count_cons])
        have HBB := Lib.hid (show b = if i + 1 = 0 then decide (k = 0) else decide (S.getD (i + 1 - 1) 0 = 10) by rw [if_neg (by omega), Nat.add_sub_cancel]; exact hb.symm)
        clear hx hxS hb
        cases b with
        | false =>
          go_wp2
          go_roundw
          case rel => exact ⟨i + 1, n, false, by omega, by omega, rfl, rfl, by go_num, Lib.hid (by rw [HCN.out]; rfl), HBB, HB⟩
          case measure => simp [intOf]; omega
        | true =>
          go_wp2
          go_roundw
          case rel => exact ⟨i + 1, n + 1, true, by omega, by omega, by go_num, rfl, by go_num, Lib.hid (by rw [HCN.out]; rfl), HBB, HB⟩
          case measure => simp [intOf]; omega
      · have hi2 : ¬ (i : Int) < (k : Int) := by omega
        obtain rfl : i = k := by omega
        have hsl : (Instr.sliceAt 9 (.string B) none (some (.int .i64 (i : Int))) none).run Tryd.prog wr = .ok (.string (bs (S.take i))) wr := by
          rw [← HBS.out]
          go_simp
          rw [if_pos (by rw [bs_size, HSL.out]; omega), bs_extract0]
        obtain ⟨P, hP⟩ : ∃ P, bs (S.take i) = P := ⟨_, rfl⟩
        rw [hP] at hsl HPB HPO HL
        clear hP hi1 hi2 hi
        by_cases hg : i = 0 ∨ S.getD (i - 1) 0 ≠ 10
        · have HPP := Lib.hid (HPB.out _ (HL.out.1 hg))
          have HCC := Lib.hid HC.out
          rw [← HC.out] at HPP
          have HWX := Lib.hid (show z0 = true ∨ wh = false from by
            rcases Nat.eq_zero_or_pos i with h0 | h0
            · left; rw [← HZ0.out]; simp [h0]
            · right
              rw [HW.out, if_neg (by omega)]
              rcases hg with h | h
              · omega
              · simpa using h)
          clear HPB HPO HL hg
          rcases HWX.out with rfl | rfl
          all_goals
            go_wp2_with (first
              | (refine wpList_to rfl 9 (.tmp 59) (.tmp 60) rfl (.string B) (.int .i64 (i : Int)) (.string P) rfl rfl hsl ?_)
              | (go_at_call 12; refine (HPP.out _).mono ?_; rintro e w3 ⟨rfl, hb3⟩; have HB3 := Lib.hid (HB.out.trans (hb3.mono HB.out.size)); clear hb3))
            all_goals go_ret
            all_goals exact ⟨rfl, HB3.out.alloc HB3.out.size _⟩
        · have hg1 : i ≠ 0 ∧ S.getD (i - 1) 0 = 10 := by
            constructor
            · exact fun h => hg (.inl h)
            · exact Classical.not_not.1 fun h => hg (.inr h)
          obtain ⟨d, hd⟩ := HL.out.2 hg1.1 hg1.2
          have HPP := Lib.hid (HPO.out d hd)
          have hwt : wh = true := by rw [HW.out, if_neg hg1.1]; simpa using hg1.2
          have hzf : z0 = false := by rw [← HZ0.out]; simpa using hg1.1
          subst hwt; subst hzf
          clear HPB HPO HL hg hg1 hd HW HZ0
          go_wp2_with (first
            | (refine wpList_to rfl 9 (.tmp 59) (.tmp 60) rfl (.string B) (.int .i64 (i : Int)) (.string P) rfl rfl hsl ?_)
            | (go_at_call 12; refine (HPP.out _).mono ?_; rintro e w3 ⟨a0', a1', a2', a3', ts', A', kk', rfl, _, _, hb3⟩; have HB3 := Lib.hid ((HB.out.trans (hb3.mono HB.out.size)).alloc (HB.out.trans (hb3.mono HB.out.size)).size (.cells #[.int .i64 a0', .int .i64 a1', .int .i64 a2', .int .i64 a3', .slice A' ts'.length kk'] 24)); clear hb3))
          go_ret
          exact ⟨rfl, HB3.out⟩
end Go.Proofs.YtfpjkedcpnmfeaaDoor
