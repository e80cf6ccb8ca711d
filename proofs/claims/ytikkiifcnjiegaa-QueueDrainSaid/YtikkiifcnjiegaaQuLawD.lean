/- QueueDrain: taken until there is none, a row is told in order: the walk. (Written by gen_qudr.py.) -/
import Derived.Test.YtikkiifcnjiegaaQuG
namespace Go.Proofs.Ytikkiifcnjiegaa
set_option linter.unusedVariables false
set_option maxRecDepth 100000
set_option linter.unusedSimpArgs false
open Go.RowKit

theorem pu_len {q : List Qn} {s : ByteArray} {id : Int} : (puQ q s id).2.length ≤ q.length + 1 := pu_few q s id

set_option maxRecDepth 100000 in
set_option maxHeartbeats 16000000 in
theorem walk_QueueDrain (A : Option Addr) (l : List Qo) (c : Nat) (s : ByteArray) (W : World) (h : InQo W A l c) (hs : s.size ≤ 140737488355328) :
    Calls Try.prog 8 #[.slice A l.length c, .string s] W fun e w' => e = .returned (.bool true) ∧ Below W.heap.size W w' := by
  have HI := Lib.hid h
  have HHD := Lib.hid (fun u => qhead_ok u)
  have HNEW := Lib.hid (fun u (hb : Below W.heap.size W u) => w_qnew (W := W) (u := u) hb)
  have HGR := Lib.hid (fun u (hb : Below W.heap.size W u) => qgreat_ok A l c u (h.on hb))
  obtain ⟨gr, hgr⟩ : ∃ gr, grQ l = gr := ⟨_, rfl⟩
  have HGB := Lib.hid hgr
  simp only [hgr] at HGR
  obtain ⟨n, hn⟩ : ∃ n, l.length = n := ⟨_, rfl⟩
  have HN := Lib.hid hn
  rw [hn] at HGR ⊢
  clear h hgr hn
  have HS := Lib.hid hs
  clear hs
  cases gr with
  | true =>
    go_enter Try.func8, Try.ntmps8
    go_wp2_with (first | (go_at_call 9; (with_reducible refine (HHD.out _).mono ?_); rintro e u1 ⟨rfl, hb⟩; have HB1 := Lib.hid hb; clear hb) | (go_at_call 10; (with_reducible refine (HNEW.out _ HB1.out).mono ?_); rintro e u2 ⟨G, qb, rfl, h1, -, -⟩; have HL2 := Lib.hid h1; clear h1) | (go_at_call 12; (with_reducible refine (HGR.out _ HL2.out.l).mono ?_); rintro e u3 ⟨rfl, hb⟩; have HL3 := Lib.hid (HL2.out.on hb); clear hb))
    go_ret
    exact ⟨rfl, HL3.out.l⟩
  | false =>
    have hfew : n ≤ 400 := by rw [← HN.out]; exact grQ_few HGB.out
    go_enter Try.func8, Try.ntmps8
    go_wp2_with (first | (go_at_call 9; (with_reducible refine (HHD.out _).mono ?_); rintro e u1 ⟨rfl, hb⟩; have HB1 := Lib.hid hb; clear hb) | (go_at_call 10; (with_reducible refine (HNEW.out _ HB1.out).mono ?_); rintro e u2 ⟨G, qb, rfl, h1, -, -⟩; have HL2 := Lib.hid h1; clear h1) | (go_at_call 12; (with_reducible refine (HGR.out _ HL2.out.l).mono ?_); rintro e u3 ⟨rfl, hb⟩; have HL3 := Lib.hid (HL2.out.on hb); clear hb))
    go_loopw [7] (fun v7 wr => ∃ (i : Nat) (G : List Nat) (q : List Qn), i ≤ n ∧ v7 = .int .i64 (i : Int) ∧ Hid (Wq W wr G qb q)) (fun v7 _ => n - (intOf v7).toNat)
    case atStart => exact ⟨0, G, [], by omega, rfl, HL3⟩
    case round =>
      obtain ⟨i, G1, q, hi, rfl, HL⟩ := hrel
      by_cases hi1 : i < n
      · have hi2 : (i : Int) < (n : Int) := by omega
        obtain ⟨bx, o, ox, rfl, hx, hsm, hc⟩ := HI.out.at3 i (by rw [HN.out]; exact hi1)
        have HC := Lib.hid hc
        obtain ⟨ow, on, oi⟩ := ox
        have HSZ := Lib.hid (show on.size ≤ 140737488355328 from hsm.1)
        have HWF := Lib.hid (show WfI oi from hsm.2)
        clear hx hsm hc
        dsimp only at HC
        obtain ⟨d0, d1, d2⟩ := HC.out wr (HL.out.l)
        by_cases h4 : ow = 4
        · subst h4
          obtain ⟨⟨is, q2⟩, hR⟩ : ∃ R, drQ q oi = R := ⟨_, rfl⟩
          have HR := Lib.hid hR
          clear hR
          go_wp2_with (go_at_call 15; (with_reducible refine (w_qdrop HL.out oi HWF.out is q2 HR.out).mono ?_); rintro e u4 ⟨rfl, h1, h2⟩; have HL4 := Lib.hid h1; clear h1 h2)
          go_roundw
          case rel => exact ⟨i + 1, G1, q2, by omega, by go_num, HL4⟩
          case measure => simp [intOf]; omega
        · have h4b : (ow == 4) = false := by simp [h4]
          obtain ⟨⟨er, q2⟩, hR⟩ : ∃ R, puQ q on oi = R := ⟨_, rfl⟩
          have HR := Lib.hid hR
          clear hR
          go_wp2_with fail
          go_region_with (go_at_call 17; (with_reducible refine (w_qput (HL.out.on ((Below.refl _ _).drew)) on oi HSZ.out HWF.out er q2 HR.out).mono ?_); rintro e u4 ⟨G', rfl, h1, h2⟩; have HL4 := Lib.hid h1; clear h1 h2)
          all_goals go_wp2_with fail
          all_goals exact ⟨⟨i + 1, G', q2, by omega, by go_num, HL4⟩, by simp [intOf]; omega⟩
      · have hi2 : ¬ (i : Int) < (n : Int) := by omega
        clear hi1 hi
        obtain ⟨L, hL⟩ : ∃ L, liQ q s = L := ⟨_, rfl⟩
        obtain ⟨m, hm⟩ : ∃ m, L.length = m := ⟨_, rfl⟩
        obtain ⟨M, hM⟩ : ∃ M, q.length = M := ⟨_, rfl⟩
        have HLL := Lib.hid (And.intro hL hm)
        have HMM := Lib.hid hM
        have hm8 : m ≤ 8 := by rw [← hm, ← hL]; exact HL.out.ok.row s
        have hmM : m ≤ M := by rw [← hm, ← hL, ← hM]; exact li_le q s
        have hM64 : M ≤ 64 := by rw [← hM]; exact HL.out.ok.few
        clear hL hm hM
        go_upto_region 12 with (go_at_call 23; (with_reducible refine (w_qlist HL.out s HS.out L m HLL.out).mono ?_); rintro e u5 ⟨A5, c5, rfl, h1, h2⟩; have HR5 := Lib.hid (h1.ri (K := G1) HL.out.hi); have HL5 := Lib.hid (HL.out.on h2); clear h1 h2)
        go_upto_region 13 with (go_at_call 21; (with_reducible refine (w_qmany HL5.out M HMM.out).mono ?_); rintro e u6 ⟨rfl, h1⟩; have HL6 := Lib.hid (HL5.out.on h1); have HR6 := Lib.hid (HR5.out.below h1 (Nat.le_refl _)); clear h1)
        go_wp2_with fail
        go_loopw [10] (fun v10 wr => ∃ (i : Nat) (q2 : List Qn), i ≤ m ∧ v10 = .int .i64 (i : Int) ∧ Hid (Wq W wr G1 qb q2) ∧ Hid (liQ q2 s = L.drop i ∧ q2.length + i = M) ∧ Hid (Ri wr G1 A5 L)) (fun v10 _ => m - (intOf v10).toNat)
        case atStart => exact ⟨0, q, by omega, rfl, HL6, Lib.hid ⟨HLL.out.1, HMM.out⟩, HR6⟩
        case round =>
          obtain ⟨j, q2, hj, rfl, HW, HQ, HR⟩ := hrel
          by_cases hj1 : j < m
          · have hj2 : (j : Int) < (m : Int) := by omega
            have hjl : j < L.length := by rw [HLL.out.2]; exact hj1
            obtain ⟨a, ha⟩ : ∃ a, L[j]? = some a := ⟨_, List.getElem?_eq_getElem hjl⟩
            have hdr : L.drop j = a :: L.drop (j + 1) := by
              obtain ⟨h1, h2⟩ := List.getElem?_eq_some_iff.1 ha
              rw [List.drop_eq_getElem_cons h1, h2]
            have h1 := HQ.out.1
            rw [hdr] at h1
            have HT := Lib.hid (tk_first h1)
            have HQ2 := Lib.hid (tk_step HW.out.ok h1)
            have HA := Lib.hid ha
            clear h1 hdr ha hjl
            go_upto_region 17 with (go_at_call 13; (with_reducible refine (w_qtake HW.out s HS.out a true (outQ q2 a) HT.out).mono ?_); rintro e u7 ⟨rfl, h1, h2⟩; have HW7 := Lib.hid h1; have HR7 := Lib.hid (HR.out.step h2); clear h1 h2)
            obtain ⟨b5, o5, x, rfl, hx, hxl⟩ := HR7.out.at_ (i := j) (by rw [HLL.out.2]; exact hj1)
            have hxa : x = a := by rw [HA.out] at hxl; injection hxl with hxl; exact hxl.symm
            subst hxa
            have hne : (x != x) = false := by simp
            clear hxl
            go_wp2_with fail
            go_roundw
            case rel => exact ⟨j + 1, outQ q2 x, by omega, by go_num, HW7, Lib.hid ⟨HQ2.out.2.1, by have := HQ2.out.2.2; have := HQ.out.2; omega⟩, HR7⟩
            case measure => simp [intOf]; omega
          · have hj2 : ¬ (j : Int) < (m : Int) := by omega
            have hjm : j = m := by omega
            subst hjm
            obtain ⟨k, hk⟩ : ∃ k, q2.length = k := ⟨_, rfl⟩
            have HK := Lib.hid hk
            have hkM : k + j = M := by rw [← hk]; exact HQ.out.2
            have HE := Lib.hid (show liQ q2 s = [] by rw [HQ.out.1, List.drop_of_length_le (by rw [HLL.out.2]; exact Nat.le_refl _)])
            have HT := Lib.hid (tk_no HE.out)
            have hw : IntKind.i64.wrap ((M : Int) - (j : Int)) = (k : Int) := (iwrap _ k (by omega) (by omega)).1
            have hj8 : (j : Int) ≤ 8 := by omega
            clear hk hkM
            go_upto_region 20 with (go_at_call 13; (with_reducible refine (w_qtake HW.out s HS.out 0 false q2 HT.out).mono ?_); rintro e u7 ⟨rfl, h1, h2⟩; have HW7 := Lib.hid h1; clear h1 h2)
            go_wp2_with (first
              | (go_at_call 23; (with_reducible refine (w_qlist HW7.out s HS.out [] 0 ⟨HE.out, rfl⟩).mono ?_); rintro e u8 ⟨A8, c8, rfl, h1, h2⟩; have HW8 := Lib.hid (HW7.out.on h2); clear h1 h2)
              | (go_at_call 21; (with_reducible refine (w_qmany HW8.out k HK.out).mono ?_); rintro e u9 ⟨rfl, h1⟩; have HW9 := Lib.hid (HW8.out.on h1); clear h1))
            go_ret
            exact ⟨rfl, HW9.out.l⟩
end Go.Proofs.Ytikkiifcnjiegaa
