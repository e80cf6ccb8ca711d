/- The walk of SyntaxNames. (Written by gen_snames.py.) -/
import Derived.Test.YtmdijhfkobcbjaaSTwo
import Derived.Test.YtmdijhfkobcbjaaSNameM
import Derived.Deep.Cut
import Derived.Deep.DeepCutAuto
namespace Go.Proofs.Ytmdijhfkobcbjaa
set_option linter.unusedVariables false
set_option linter.unusedSimpArgs false
open Go.RowKit

set_option maxRecDepth 100000 in
set_option maxHeartbeats 8000000 in
theorem walk_SyntaxNames (s : ByteArray) (c0 : Int) (W : World) (ws : s.size ≤ maxLen) (wc : (Lit.int .u8 c0).wf = true) :
    Calls Try.prog 7 #[.string s, .int .u8 c0] W fun e w' => e = .returned (.bool true) ∧ Below W.heap.size W w' := by
  obtain ⟨v, hv, rfl⟩ := nat_u8 c0 wc
  clear wc
  unfold maxLen at ws
  by_cases g1 : 1000 < s.size
  · go_enter Try.func7, Try.ntmps7
    go_wp2_with fail
    refine (shead_ok _).mono ?_
    rintro e w1 ⟨rfl, hb1⟩
    go_wp2_with fail
    go_ret
    exact ⟨rfl, hb1⟩
  have hsz : s.size ≤ 1000 := by omega
  clear g1 ws
  obtain ⟨c, hc⟩ : ∃ c : UInt8, c.toNat = v := ⟨UInt8.ofNat v, by rw [UInt8.toNat_ofNat']; omega⟩
  obtain ⟨O, hO⟩ : ∃ O : ByteArray, (⟨#[c]⟩ : ByteArray) = O := ⟨_, rfl⟩
  have hO1 : O.size = 1 := by rw [← hO]; rfl
  have hO2 : O.size ≤ 1 := by omega
  obtain ⟨l, hl⟩ : ∃ l, s = bs l := ⟨s.data.toList, (bs_of s).symm⟩
  have hll : s.size = l.length := by rw [hl, bs_size]
  obtain ⟨Lt, hLt⟩ : ∃ Lt, Lt = letB c := ⟨_, rfl⟩
  have HNM := Lib.hid (fun (t : ByteArray) (b : Bool) (hb : nameB t = b) (ht : t.size ≤ 140737488355328) (u : World) => show Calls Try.prog 15 #[.string t] u fun e w' => e = .returned (.bool b) ∧ u = w' from by rw [← hb]; exact name_ok t u ht)
  have hOb : O = bs [c] := by rw [← hO]; rfl
  have e45 : (⟨#[45]⟩ : ByteArray) = bs [45] := rfl
  have HVV := Lib.hid (show (v : Int) = ((c.toNat : Nat) : Int) by rw [hc])
  have HO := Lib.hid hO
  have HLT := Lib.hid hLt
  have HCV := Lib.hid hc
  have HONE := Lib.hid (fun u => HNM.out O Lt (by rw [hOb, nameB_L, name_one, hLt]) (by omega) u)
  by_cases h0 : s.size = 0
  · have hle : l = [] := List.eq_nil_of_length_eq_zero (by omega)
    have hse : s = ⟨#[]⟩ := by rw [hl, hle]; rfl
    subst hse
    have HS := Lib.hid (fun u => HNM.out ⟨#[]⟩ false (by decide) (by decide) u)
    clear hc hO hO1 hl hll hLt hOb h0 hle e45 HNM
    go_enter Try.func7, Try.ntmps7
    go_wp2_with fail
    refine (shead_ok _).mono ?_
    rintro e w1 ⟨rfl, hb1⟩
    have hso := str_one (wx := w1) (c := c) (v := (v : Int)) HVV.out
    rw [HO.out] at hso
    have HB := Lib.hid (hb1.alloc hb1.size (.cells #[.int .u8 (v : Int)] 5))
    clear hb1
    go_upto_region 5 with fail
    clear hso
    generalize hw2 : w1.alloc (.cells #[.int .u8 (v : Int)] 5) = w2 at HB ⊢
    clear hw2
    go_cut [7] from 17 to 30 (fun v7 wx => v7 = .bool Lt ∧ wx = w2)
    case first =>
      have HLV := Lib.hid (show Lt = ((decide (97 ≤ v) && decide (v ≤ 122)) || (decide (48 ≤ v) && decide (v ≤ 57))) by rw [HLT.out, letB, HCV.out])
      rcases Nat.lt_or_ge v 97 with a1 | a1
      · rcases Nat.lt_or_ge v 48 with a2 | a2
        · have t0 : (v : Int) < 97 := by omega
          have t1 : (v : Int) < 48 := by omega
          go_wp2_with fail
          go_meet
          case rel => exact ⟨by (first | (rw [HLV.out]; done) | (rw [HLV.out]; congr 1; done) | (rw [HLV.out]; congr 1; rw [Bool.eq_iff_iff]; simp only [Bool.or_eq_true, Bool.and_eq_true, decide_eq_true_eq]; first | done | omega | (simp <;> omega))), rfl⟩
        · rcases Nat.lt_or_ge 57 v with a3 | a3
          · have t0 : (v : Int) < 97 := by omega
            have t1 : (48 : Int) ≤ (v : Int) := by omega
            have t2 : (57 : Int) < (v : Int) := by omega
            go_wp2_with fail
            go_meet
            case rel => exact ⟨by (first | (rw [HLV.out]; done) | (rw [HLV.out]; congr 1; done) | (rw [HLV.out]; congr 1; rw [Bool.eq_iff_iff]; simp only [Bool.or_eq_true, Bool.and_eq_true, decide_eq_true_eq]; first | done | omega | (simp <;> omega))), rfl⟩
          · have t0 : (v : Int) < 97 := by omega
            have t1 : (48 : Int) ≤ (v : Int) := by omega
            have t2 : (v : Int) ≤ 57 := by omega
            go_wp2_with fail
            go_meet
            case rel => exact ⟨by (first | (rw [HLV.out]; done) | (rw [HLV.out]; congr 1; done) | (rw [HLV.out]; congr 1; rw [Bool.eq_iff_iff]; simp only [Bool.or_eq_true, Bool.and_eq_true, decide_eq_true_eq]; first | done | omega | (simp <;> omega))), rfl⟩
      · rcases Nat.lt_or_ge 122 v with a2 | a2
        · have t0 : (97 : Int) ≤ (v : Int) := by omega
          have t1 : (122 : Int) < (v : Int) := by omega
          have t2 : (48 : Int) ≤ (v : Int) := by omega
          have t3 : (57 : Int) < (v : Int) := by omega
          go_wp2_with fail
          go_meet
          case rel => exact ⟨by (first | (rw [HLV.out]; done) | (rw [HLV.out]; congr 1; done) | (rw [HLV.out]; congr 1; rw [Bool.eq_iff_iff]; simp only [Bool.or_eq_true, Bool.and_eq_true, decide_eq_true_eq]; first | done | omega | (simp <;> omega))), rfl⟩
        · have t0 : (97 : Int) ≤ (v : Int) := by omega
          have t1 : (v : Int) ≤ 122 := by omega
          go_wp2_with fail
          go_meet
          case rel => exact ⟨by (first | (rw [HLV.out]; done) | (rw [HLV.out]; congr 1; done) | (rw [HLV.out]; congr 1; rw [Bool.eq_iff_iff]; simp only [Bool.or_eq_true, Bool.and_eq_true, decide_eq_true_eq]; first | done | omega | (simp <;> omega))), rfl⟩
    case rest =>
      obtain ⟨rfl, rfl⟩ := hcut
      go_wp2_with fail
      refine (HS.out _).mono ?_
      rintro e wq ⟨rfl, rfl⟩
      go_wp2_with fail
      refine (HONE.out _).mono ?_
      rintro e wq ⟨rfl, rfl⟩
      go_wp2_with fail
      all_goals (first | (go_ret; exact ⟨rfl, HB.out⟩) | (exfalso; have hh := ‹some undef = some (Value.bool _)›; injection hh with hh; cases hh))
  have hne : (s.toList == []) = false := by
    rw [beq_eq_false_iff_ne, ByteArray.toList_eq]
    intro h
    apply h0
    have := congrArg List.length h
    simpa using this
  cases hn : nameB s with
  | false =>
    have HS := Lib.hid (fun u => HNM.out s false hn (by omega) u)
    clear hc hO hO1 hl hll hLt hOb h0 e45 hn HNM
    go_enter Try.func7, Try.ntmps7
    go_wp2_with fail
    refine (shead_ok _).mono ?_
    rintro e w1 ⟨rfl, hb1⟩
    have hso := str_one (wx := w1) (c := c) (v := (v : Int)) HVV.out
    rw [HO.out] at hso
    have HB := Lib.hid (hb1.alloc hb1.size (.cells #[.int .u8 (v : Int)] 5))
    clear hb1
    go_upto_region 5 with fail
    clear hso
    generalize hw2 : w1.alloc (.cells #[.int .u8 (v : Int)] 5) = w2 at HB ⊢
    clear hw2
    go_cut [7] from 17 to 30 (fun v7 wx => v7 = .bool Lt ∧ wx = w2)
    case first =>
      have HLV := Lib.hid (show Lt = ((decide (97 ≤ v) && decide (v ≤ 122)) || (decide (48 ≤ v) && decide (v ≤ 57))) by rw [HLT.out, letB, HCV.out])
      rcases Nat.lt_or_ge v 97 with a1 | a1
      · rcases Nat.lt_or_ge v 48 with a2 | a2
        · have t0 : (v : Int) < 97 := by omega
          have t1 : (v : Int) < 48 := by omega
          go_wp2_with fail
          go_meet
          case rel => exact ⟨by (first | (rw [HLV.out]; done) | (rw [HLV.out]; congr 1; done) | (rw [HLV.out]; congr 1; rw [Bool.eq_iff_iff]; simp only [Bool.or_eq_true, Bool.and_eq_true, decide_eq_true_eq]; first | done | omega | (simp <;> omega))), rfl⟩
        · rcases Nat.lt_or_ge 57 v with a3 | a3
          · have t0 : (v : Int) < 97 := by omega
            have t1 : (48 : Int) ≤ (v : Int) := by omega
            have t2 : (57 : Int) < (v : Int) := by omega
            go_wp2_with fail
            go_meet
            case rel => exact ⟨by (first | (rw [HLV.out]; done) | (rw [HLV.out]; congr 1; done) | (rw [HLV.out]; congr 1; rw [Bool.eq_iff_iff]; simp only [Bool.or_eq_true, Bool.and_eq_true, decide_eq_true_eq]; first | done | omega | (simp <;> omega))), rfl⟩
          · have t0 : (v : Int) < 97 := by omega
            have t1 : (48 : Int) ≤ (v : Int) := by omega
            have t2 : (v : Int) ≤ 57 := by omega
            go_wp2_with fail
            go_meet
            case rel => exact ⟨by (first | (rw [HLV.out]; done) | (rw [HLV.out]; congr 1; done) | (rw [HLV.out]; congr 1; rw [Bool.eq_iff_iff]; simp only [Bool.or_eq_true, Bool.and_eq_true, decide_eq_true_eq]; first | done | omega | (simp <;> omega))), rfl⟩
      · rcases Nat.lt_or_ge 122 v with a2 | a2
        · have t0 : (97 : Int) ≤ (v : Int) := by omega
          have t1 : (122 : Int) < (v : Int) := by omega
          have t2 : (48 : Int) ≤ (v : Int) := by omega
          have t3 : (57 : Int) < (v : Int) := by omega
          go_wp2_with fail
          go_meet
          case rel => exact ⟨by (first | (rw [HLV.out]; done) | (rw [HLV.out]; congr 1; done) | (rw [HLV.out]; congr 1; rw [Bool.eq_iff_iff]; simp only [Bool.or_eq_true, Bool.and_eq_true, decide_eq_true_eq]; first | done | omega | (simp <;> omega))), rfl⟩
        · have t0 : (97 : Int) ≤ (v : Int) := by omega
          have t1 : (v : Int) ≤ 122 := by omega
          go_wp2_with fail
          go_meet
          case rel => exact ⟨by (first | (rw [HLV.out]; done) | (rw [HLV.out]; congr 1; done) | (rw [HLV.out]; congr 1; rw [Bool.eq_iff_iff]; simp only [Bool.or_eq_true, Bool.and_eq_true, decide_eq_true_eq]; first | done | omega | (simp <;> omega))), rfl⟩
    case rest =>
      obtain ⟨rfl, rfl⟩ := hcut
      go_wp2_with fail
      refine (HS.out _).mono ?_
      rintro e wq ⟨rfl, rfl⟩
      go_wp2_with fail
      all_goals (first | (go_ret; exact ⟨rfl, HB.out⟩) | (exfalso; have hh := ‹some undef = some (Value.bool _)›; injection hh with hh; cases hh))
  | true =>
    have hn2 : nameL l = true := by rw [← nameB_L, ← hl]; exact hn
    have hmost : l.length ≤ 20 := (name_p hn2).most
    have HS := Lib.hid (fun u => HNM.out s true hn (by omega) u)
    have HP2 := Lib.hid (fun u => HNM.out (s ++ ⟨#[45]⟩) false (by rw [hl, e45, bs_append, nameB_L]; exact name_line l hn2) (by rw [hl, e45, bs_append, bs_size, List.length_append]; simp <;> omega) u)
    have HP3 := Lib.hid (fun u => HNM.out (⟨#[45]⟩ ++ s) false (by rw [hl, e45, bs_append, nameB_L]; exact line_name l) (by rw [hl, e45, bs_append, bs_size, List.length_append]; simp <;> omega) u)
    have HP1 := Lib.hid (fun u => HNM.out (s ++ O) (Lt && decide (l.length < 20)) (by rw [hl, hOb, bs_append, nameB_L, name_more l c hn2, hLt]) (by rw [hl, hOb, bs_append, bs_size, List.length_append]; simp <;> omega) u)
    have HP4 := Lib.hid (fun u => HNM.out (s ++ ⟨#[45]⟩ ++ O) (Lt && decide (l.length < 19)) (by rw [hl, hOb, e45, bs_append, bs_append, nameB_L, name_line_more l c hn2, hLt]) (by rw [hl, hOb, e45, bs_append, bs_append, bs_size, List.length_append, List.length_append]; simp <;> omega) u)
    rw [← hll] at hmost HP1 HP4
    have q1 : s.size ≤ 20 := hmost
    clear hc hO hO1 hl hll hLt hOb h0 e45 hn HNM hn2 hmost
    cases Lt with
    | false =>
      simp only [Bool.false_and] at HP1 HP4
      go_enter Try.func7, Try.ntmps7
      go_wp2_with fail
      refine (shead_ok _).mono ?_
      rintro e w1 ⟨rfl, hb1⟩
      have hso := str_one (wx := w1) (c := c) (v := (v : Int)) HVV.out
      rw [HO.out] at hso
      have HB := Lib.hid (hb1.alloc hb1.size (.cells #[.int .u8 (v : Int)] 5))
      clear hb1
      go_upto_region 5 with fail
      clear hso
      generalize hw2 : w1.alloc (.cells #[.int .u8 (v : Int)] 5) = w2 at HB ⊢
      clear hw2
      go_cut [7] from 17 to 30 (fun v7 wx => v7 = .bool false ∧ wx = w2)
      case first =>
        have HLV := Lib.hid (show false = ((decide (97 ≤ v) && decide (v ≤ 122)) || (decide (48 ≤ v) && decide (v ≤ 57))) by rw [HLT.out, letB, HCV.out])
        rcases Nat.lt_or_ge v 97 with a1 | a1
        · rcases Nat.lt_or_ge v 48 with a2 | a2
          · have t0 : (v : Int) < 97 := by omega
            have t1 : (v : Int) < 48 := by omega
            go_wp2_with fail
            go_meet
            case rel => exact ⟨by (first | (rw [HLV.out]; done) | (rw [HLV.out]; congr 1; done) | (rw [HLV.out]; congr 1; rw [Bool.eq_iff_iff]; simp only [Bool.or_eq_true, Bool.and_eq_true, decide_eq_true_eq]; first | done | omega | (simp <;> omega))), rfl⟩
          · rcases Nat.lt_or_ge 57 v with a3 | a3
            · have t0 : (v : Int) < 97 := by omega
              have t1 : (48 : Int) ≤ (v : Int) := by omega
              have t2 : (57 : Int) < (v : Int) := by omega
              go_wp2_with fail
              go_meet
              case rel => exact ⟨by (first | (rw [HLV.out]; done) | (rw [HLV.out]; congr 1; done) | (rw [HLV.out]; congr 1; rw [Bool.eq_iff_iff]; simp only [Bool.or_eq_true, Bool.and_eq_true, decide_eq_true_eq]; first | done | omega | (simp <;> omega))), rfl⟩
            · have t0 : (v : Int) < 97 := by omega
              have t1 : (48 : Int) ≤ (v : Int) := by omega
              have t2 : (v : Int) ≤ 57 := by omega
              go_wp2_with fail
              go_meet
              case rel => exact ⟨by (first | (rw [HLV.out]; done) | (rw [HLV.out]; congr 1; done) | (rw [HLV.out]; congr 1; rw [Bool.eq_iff_iff]; simp only [Bool.or_eq_true, Bool.and_eq_true, decide_eq_true_eq]; first | done | omega | (simp <;> omega))), rfl⟩
        · rcases Nat.lt_or_ge 122 v with a2 | a2
          · have t0 : (97 : Int) ≤ (v : Int) := by omega
            have t1 : (122 : Int) < (v : Int) := by omega
            have t2 : (48 : Int) ≤ (v : Int) := by omega
            have t3 : (57 : Int) < (v : Int) := by omega
            go_wp2_with fail
            go_meet
            case rel => exact ⟨by (first | (rw [HLV.out]; done) | (rw [HLV.out]; congr 1; done) | (rw [HLV.out]; congr 1; rw [Bool.eq_iff_iff]; simp only [Bool.or_eq_true, Bool.and_eq_true, decide_eq_true_eq]; first | done | omega | (simp <;> omega))), rfl⟩
          · have t0 : (97 : Int) ≤ (v : Int) := by omega
            have t1 : (v : Int) ≤ 122 := by omega
            go_wp2_with fail
            go_meet
            case rel => exact ⟨by (first | (rw [HLV.out]; done) | (rw [HLV.out]; congr 1; done) | (rw [HLV.out]; congr 1; rw [Bool.eq_iff_iff]; simp only [Bool.or_eq_true, Bool.and_eq_true, decide_eq_true_eq]; first | done | omega | (simp <;> omega))), rfl⟩
      case rest =>
        obtain ⟨rfl, rfl⟩ := hcut
        go_wp2_with fail
        refine (HS.out _).mono ?_
        rintro e wq ⟨rfl, rfl⟩
        go_wp2_with fail
        refine (HP1.out _).mono ?_
        rintro e wq ⟨rfl, rfl⟩
        go_wp2_with fail
        refine (HP2.out _).mono ?_
        rintro e wq ⟨rfl, rfl⟩
        go_wp2_with fail
        refine (HP3.out _).mono ?_
        rintro e wq ⟨rfl, rfl⟩
        go_wp2_with fail
        refine (HP4.out _).mono ?_
        rintro e wq ⟨rfl, rfl⟩
        go_wp2_with fail
        all_goals (first | (go_ret; exact ⟨rfl, HB.out⟩) | (exfalso; have hh := ‹some undef = some (Value.bool _)›; injection hh with hh; cases hh))
    | true =>
      simp only [Bool.true_and] at HP1 HP4
      rcases Nat.lt_trichotomy s.size 19 with h19 | h19 | h19
      · rw [show decide (s.size < 20) = true by simp <;> omega] at HP1
        rw [show decide (s.size < 19) = true by simp <;> omega] at HP4
        have d20 : decide ((s.size : Int) < 20) = true := by simp <;> omega
        have d19 : decide ((s.size : Int) < 19) = true := by simp <;> omega
        clear h19
        go_enter Try.func7, Try.ntmps7
        go_wp2_with fail
        refine (shead_ok _).mono ?_
        rintro e w1 ⟨rfl, hb1⟩
        have hso := str_one (wx := w1) (c := c) (v := (v : Int)) HVV.out
        rw [HO.out] at hso
        have HB := Lib.hid (hb1.alloc hb1.size (.cells #[.int .u8 (v : Int)] 5))
        clear hb1
        go_upto_region 5 with fail
        clear hso
        generalize hw2 : w1.alloc (.cells #[.int .u8 (v : Int)] 5) = w2 at HB ⊢
        clear hw2
        go_cut [7] from 17 to 30 (fun v7 wx => v7 = .bool true ∧ wx = w2)
        case first =>
          have HLV := Lib.hid (show true = ((decide (97 ≤ v) && decide (v ≤ 122)) || (decide (48 ≤ v) && decide (v ≤ 57))) by rw [HLT.out, letB, HCV.out])
          rcases Nat.lt_or_ge v 97 with a1 | a1
          · rcases Nat.lt_or_ge v 48 with a2 | a2
            · have t0 : (v : Int) < 97 := by omega
              have t1 : (v : Int) < 48 := by omega
              go_wp2_with fail
              go_meet
              case rel => exact ⟨by (first | (rw [HLV.out]; done) | (rw [HLV.out]; congr 1; done) | (rw [HLV.out]; congr 1; rw [Bool.eq_iff_iff]; simp only [Bool.or_eq_true, Bool.and_eq_true, decide_eq_true_eq]; first | done | omega | (simp <;> omega))), rfl⟩
            · rcases Nat.lt_or_ge 57 v with a3 | a3
              · have t0 : (v : Int) < 97 := by omega
                have t1 : (48 : Int) ≤ (v : Int) := by omega
                have t2 : (57 : Int) < (v : Int) := by omega
                go_wp2_with fail
                go_meet
                case rel => exact ⟨by (first | (rw [HLV.out]; done) | (rw [HLV.out]; congr 1; done) | (rw [HLV.out]; congr 1; rw [Bool.eq_iff_iff]; simp only [Bool.or_eq_true, Bool.and_eq_true, decide_eq_true_eq]; first | done | omega | (simp <;> omega))), rfl⟩
              · have t0 : (v : Int) < 97 := by omega
                have t1 : (48 : Int) ≤ (v : Int) := by omega
                have t2 : (v : Int) ≤ 57 := by omega
                go_wp2_with fail
                go_meet
                case rel => exact ⟨by (first | (rw [HLV.out]; done) | (rw [HLV.out]; congr 1; done) | (rw [HLV.out]; congr 1; rw [Bool.eq_iff_iff]; simp only [Bool.or_eq_true, Bool.and_eq_true, decide_eq_true_eq]; first | done | omega | (simp <;> omega))), rfl⟩
          · rcases Nat.lt_or_ge 122 v with a2 | a2
            · have t0 : (97 : Int) ≤ (v : Int) := by omega
              have t1 : (122 : Int) < (v : Int) := by omega
              have t2 : (48 : Int) ≤ (v : Int) := by omega
              have t3 : (57 : Int) < (v : Int) := by omega
              go_wp2_with fail
              go_meet
              case rel => exact ⟨by (first | (rw [HLV.out]; done) | (rw [HLV.out]; congr 1; done) | (rw [HLV.out]; congr 1; rw [Bool.eq_iff_iff]; simp only [Bool.or_eq_true, Bool.and_eq_true, decide_eq_true_eq]; first | done | omega | (simp <;> omega))), rfl⟩
            · have t0 : (97 : Int) ≤ (v : Int) := by omega
              have t1 : (v : Int) ≤ 122 := by omega
              go_wp2_with fail
              go_meet
              case rel => exact ⟨by (first | (rw [HLV.out]; done) | (rw [HLV.out]; congr 1; done) | (rw [HLV.out]; congr 1; rw [Bool.eq_iff_iff]; simp only [Bool.or_eq_true, Bool.and_eq_true, decide_eq_true_eq]; first | done | omega | (simp <;> omega))), rfl⟩
        case rest =>
          obtain ⟨rfl, rfl⟩ := hcut
          go_wp2_with fail
          refine (HS.out _).mono ?_
          rintro e wq ⟨rfl, rfl⟩
          go_wp2_with fail
          refine (HP1.out _).mono ?_
          rintro e wq ⟨rfl, rfl⟩
          go_wp2_with fail
          refine (HP2.out _).mono ?_
          rintro e wq ⟨rfl, rfl⟩
          go_wp2_with fail
          refine (HP3.out _).mono ?_
          rintro e wq ⟨rfl, rfl⟩
          go_wp2_with fail
          refine (HP4.out _).mono ?_
          rintro e wq ⟨rfl, rfl⟩
          go_wp2_with fail
          all_goals (first | (go_ret; exact ⟨rfl, HB.out⟩) | (exfalso; have hh := ‹some undef = some (Value.bool _)›; injection hh with hh; cases hh))
      · rw [show decide (s.size < 20) = true by simp <;> omega] at HP1
        rw [show decide (s.size < 19) = false by simp <;> omega] at HP4
        have d20 : decide ((s.size : Int) < 20) = true := by simp <;> omega
        have d19 : decide ((s.size : Int) < 19) = false := by simp <;> omega
        clear h19
        go_enter Try.func7, Try.ntmps7
        go_wp2_with fail
        refine (shead_ok _).mono ?_
        rintro e w1 ⟨rfl, hb1⟩
        have hso := str_one (wx := w1) (c := c) (v := (v : Int)) HVV.out
        rw [HO.out] at hso
        have HB := Lib.hid (hb1.alloc hb1.size (.cells #[.int .u8 (v : Int)] 5))
        clear hb1
        go_upto_region 5 with fail
        clear hso
        generalize hw2 : w1.alloc (.cells #[.int .u8 (v : Int)] 5) = w2 at HB ⊢
        clear hw2
        go_cut [7] from 17 to 30 (fun v7 wx => v7 = .bool true ∧ wx = w2)
        case first =>
          have HLV := Lib.hid (show true = ((decide (97 ≤ v) && decide (v ≤ 122)) || (decide (48 ≤ v) && decide (v ≤ 57))) by rw [HLT.out, letB, HCV.out])
          rcases Nat.lt_or_ge v 97 with a1 | a1
          · rcases Nat.lt_or_ge v 48 with a2 | a2
            · have t0 : (v : Int) < 97 := by omega
              have t1 : (v : Int) < 48 := by omega
              go_wp2_with fail
              go_meet
              case rel => exact ⟨by (first | (rw [HLV.out]; done) | (rw [HLV.out]; congr 1; done) | (rw [HLV.out]; congr 1; rw [Bool.eq_iff_iff]; simp only [Bool.or_eq_true, Bool.and_eq_true, decide_eq_true_eq]; first | done | omega | (simp <;> omega))), rfl⟩
            · rcases Nat.lt_or_ge 57 v with a3 | a3
              · have t0 : (v : Int) < 97 := by omega
                have t1 : (48 : Int) ≤ (v : Int) := by omega
                have t2 : (57 : Int) < (v : Int) := by omega
                go_wp2_with fail
                go_meet
                case rel => exact ⟨by (first | (rw [HLV.out]; done) | (rw [HLV.out]; congr 1; done) | (rw [HLV.out]; congr 1; rw [Bool.eq_iff_iff]; simp only [Bool.or_eq_true, Bool.and_eq_true, decide_eq_true_eq]; first | done | omega | (simp <;> omega))), rfl⟩
              · have t0 : (v : Int) < 97 := by omega
                have t1 : (48 : Int) ≤ (v : Int) := by omega
                have t2 : (v : Int) ≤ 57 := by omega
                go_wp2_with fail
                go_meet
                case rel => exact ⟨by (first | (rw [HLV.out]; done) | (rw [HLV.out]; congr 1; done) | (rw [HLV.out]; congr 1; rw [Bool.eq_iff_iff]; simp only [Bool.or_eq_true, Bool.and_eq_true, decide_eq_true_eq]; first | done | omega | (simp <;> omega))), rfl⟩
          · rcases Nat.lt_or_ge 122 v with a2 | a2
            · have t0 : (97 : Int) ≤ (v : Int) := by omega
              have t1 : (122 : Int) < (v : Int) := by omega
              have t2 : (48 : Int) ≤ (v : Int) := by omega
              have t3 : (57 : Int) < (v : Int) := by omega
              go_wp2_with fail
              go_meet
              case rel => exact ⟨by (first | (rw [HLV.out]; done) | (rw [HLV.out]; congr 1; done) | (rw [HLV.out]; congr 1; rw [Bool.eq_iff_iff]; simp only [Bool.or_eq_true, Bool.and_eq_true, decide_eq_true_eq]; first | done | omega | (simp <;> omega))), rfl⟩
            · have t0 : (97 : Int) ≤ (v : Int) := by omega
              have t1 : (v : Int) ≤ 122 := by omega
              go_wp2_with fail
              go_meet
              case rel => exact ⟨by (first | (rw [HLV.out]; done) | (rw [HLV.out]; congr 1; done) | (rw [HLV.out]; congr 1; rw [Bool.eq_iff_iff]; simp only [Bool.or_eq_true, Bool.and_eq_true, decide_eq_true_eq]; first | done | omega | (simp <;> omega))), rfl⟩
        case rest =>
          obtain ⟨rfl, rfl⟩ := hcut
          go_wp2_with fail
          refine (HS.out _).mono ?_
          rintro e wq ⟨rfl, rfl⟩
          go_wp2_with fail
          refine (HP1.out _).mono ?_
          rintro e wq ⟨rfl, rfl⟩
          go_wp2_with fail
          refine (HP2.out _).mono ?_
          rintro e wq ⟨rfl, rfl⟩
          go_wp2_with fail
          refine (HP3.out _).mono ?_
          rintro e wq ⟨rfl, rfl⟩
          go_wp2_with fail
          refine (HP4.out _).mono ?_
          rintro e wq ⟨rfl, rfl⟩
          go_wp2_with fail
          all_goals (first | (go_ret; exact ⟨rfl, HB.out⟩) | (exfalso; have hh := ‹some undef = some (Value.bool _)›; injection hh with hh; cases hh))
      · rw [show decide (s.size < 20) = false by simp <;> omega] at HP1
        rw [show decide (s.size < 19) = false by simp <;> omega] at HP4
        have d20 : decide ((s.size : Int) < 20) = false := by simp <;> omega
        have d19 : decide ((s.size : Int) < 19) = false := by simp <;> omega
        clear h19
        go_enter Try.func7, Try.ntmps7
        go_wp2_with fail
        refine (shead_ok _).mono ?_
        rintro e w1 ⟨rfl, hb1⟩
        have hso := str_one (wx := w1) (c := c) (v := (v : Int)) HVV.out
        rw [HO.out] at hso
        have HB := Lib.hid (hb1.alloc hb1.size (.cells #[.int .u8 (v : Int)] 5))
        clear hb1
        go_upto_region 5 with fail
        clear hso
        generalize hw2 : w1.alloc (.cells #[.int .u8 (v : Int)] 5) = w2 at HB ⊢
        clear hw2
        go_cut [7] from 17 to 30 (fun v7 wx => v7 = .bool true ∧ wx = w2)
        case first =>
          have HLV := Lib.hid (show true = ((decide (97 ≤ v) && decide (v ≤ 122)) || (decide (48 ≤ v) && decide (v ≤ 57))) by rw [HLT.out, letB, HCV.out])
          rcases Nat.lt_or_ge v 97 with a1 | a1
          · rcases Nat.lt_or_ge v 48 with a2 | a2
            · have t0 : (v : Int) < 97 := by omega
              have t1 : (v : Int) < 48 := by omega
              go_wp2_with fail
              go_meet
              case rel => exact ⟨by (first | (rw [HLV.out]; done) | (rw [HLV.out]; congr 1; done) | (rw [HLV.out]; congr 1; rw [Bool.eq_iff_iff]; simp only [Bool.or_eq_true, Bool.and_eq_true, decide_eq_true_eq]; first | done | omega | (simp <;> omega))), rfl⟩
            · rcases Nat.lt_or_ge 57 v with a3 | a3
              · have t0 : (v : Int) < 97 := by omega
                have t1 : (48 : Int) ≤ (v : Int) := by omega
                have t2 : (57 : Int) < (v : Int) := by omega
                go_wp2_with fail
                go_meet
                case rel => exact ⟨by (first | (rw [HLV.out]; done) | (rw [HLV.out]; congr 1; done) | (rw [HLV.out]; congr 1; rw [Bool.eq_iff_iff]; simp only [Bool.or_eq_true, Bool.and_eq_true, decide_eq_true_eq]; first | done | omega | (simp <;> omega))), rfl⟩
              · have t0 : (v : Int) < 97 := by omega
                have t1 : (48 : Int) ≤ (v : Int) := by omega
                have t2 : (v : Int) ≤ 57 := by omega
                go_wp2_with fail
                go_meet
                case rel => exact ⟨by (first | (rw [HLV.out]; done) | (rw [HLV.out]; congr 1; done) | (rw [HLV.out]; congr 1; rw [Bool.eq_iff_iff]; simp only [Bool.or_eq_true, Bool.and_eq_true, decide_eq_true_eq]; first | done | omega | (simp <;> omega))), rfl⟩
          · rcases Nat.lt_or_ge 122 v with a2 | a2
            · have t0 : (97 : Int) ≤ (v : Int) := by omega
              have t1 : (122 : Int) < (v : Int) := by omega
              have t2 : (48 : Int) ≤ (v : Int) := by omega
              have t3 : (57 : Int) < (v : Int) := by omega
              go_wp2_with fail
              go_meet
              case rel => exact ⟨by (first | (rw [HLV.out]; done) | (rw [HLV.out]; congr 1; done) | (rw [HLV.out]; congr 1; rw [Bool.eq_iff_iff]; simp only [Bool.or_eq_true, Bool.and_eq_true, decide_eq_true_eq]; first | done | omega | (simp <;> omega))), rfl⟩
            · have t0 : (97 : Int) ≤ (v : Int) := by omega
              have t1 : (v : Int) ≤ 122 := by omega
              go_wp2_with fail
              go_meet
              case rel => exact ⟨by (first | (rw [HLV.out]; done) | (rw [HLV.out]; congr 1; done) | (rw [HLV.out]; congr 1; rw [Bool.eq_iff_iff]; simp only [Bool.or_eq_true, Bool.and_eq_true, decide_eq_true_eq]; first | done | omega | (simp <;> omega))), rfl⟩
        case rest =>
          obtain ⟨rfl, rfl⟩ := hcut
          go_wp2_with fail
          refine (HS.out _).mono ?_
          rintro e wq ⟨rfl, rfl⟩
          go_wp2_with fail
          refine (HP1.out _).mono ?_
          rintro e wq ⟨rfl, rfl⟩
          go_wp2_with fail
          refine (HP2.out _).mono ?_
          rintro e wq ⟨rfl, rfl⟩
          go_wp2_with fail
          refine (HP3.out _).mono ?_
          rintro e wq ⟨rfl, rfl⟩
          go_wp2_with fail
          refine (HP4.out _).mono ?_
          rintro e wq ⟨rfl, rfl⟩
          go_wp2_with fail
          all_goals (first | (go_ret; exact ⟨rfl, HB.out⟩) | (exfalso; have hh := ‹some undef = some (Value.bool _)›; injection hh with hh; cases hh))
end Go.Proofs.Ytmdijhfkobcbjaa
