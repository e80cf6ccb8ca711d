/- What the queue's laws share: great, without, head. -/
import Derived.Test.YtikkiifcnjiegaaG8
import Derived.Test.YtikkiifcnjiegaaG10
import Derived.BigQuiet
namespace Go.Proofs.Ytikkiifcnjiegaa
set_option linter.unusedVariables false
set_option maxRecDepth 100000
set_option linter.unusedSimpArgs false
open Go.RowKit

theorem Ke.b0 {u u' : World} (k : Ke [] u u') : Below u.heap.size u u' := k.below (Nat.le_refl _) (fun _ h => by cases h)
/-- Is that too much? -/
def bgQ (o : Qo) : Bool := decide (1000 < o.nm.size)
def grQ (l : List Qo) : Bool := (l.take 600).any bgQ || decide (400 < l.length)
theorem grQ_few {l : List Qo} (h : grQ l = false) : l.length ≤ 400 := by
  unfold grQ at h
  simp only [Bool.or_eq_false_iff, decide_eq_false_iff_not] at h
  omega
set_option maxRecDepth 100000 in
set_option maxHeartbeats 4000000 in
theorem qgreat_ok (A : Option Addr) (l : List Qo) (c : Nat) (u : World) (h : InQo u A l c) : Calls Try.prog 12 #[.slice A l.length c] u fun e u' => e = .returned (.bool (grQ l)) ∧ Below u.heap.size u u' := by
  have HI := Lib.hid h
  obtain ⟨R, hR⟩ : ∃ R, grQ l = R := ⟨_, rfl⟩
  have HRR := Lib.hid hR
  rw [hR]
  obtain ⟨n, hn⟩ : ∃ n, l.length = n := ⟨_, rfl⟩
  have HN := Lib.hid hn
  have hnb : n ≤ 140737488355328 := by rw [← hn]; exact h.n
  rw [hn]
  clear h hn hR
  go_enter Try.func12, Try.ntmps12
  go_wp2_with fail
  go_loopw [3] (fun v3 wr => ∃ i : Nat, i ≤ n ∧ i ≤ 600 ∧ v3 = .int .i64 (i : Int) ∧ Hid (∀ y ∈ l.take i, bgQ y = false) ∧ Hid (Below u.heap.size u wr)) (fun v3 _ => n - (intOf v3).toNat)
  case atStart => exact ⟨0, by omega, by omega, rfl, Lib.hid (fun y hy => by simp at hy), Lib.hid (Below.refl _ _)⟩
  case round =>
    obtain ⟨i, hi, hi4, rfl, H0, HB⟩ := hrel
    have HNO := Lib.hid (show (i = 600 ∨ i = n) → R = decide (400 < n) from fun hh => by
      rw [← HRR.out]
      unfold grQ
      have e : l.take 600 = l.take i := by
        rcases hh with hh | hh
        · rw [hh]
        · rw [List.take_of_length_le (by rw [HN.out]; omega), List.take_of_length_le (by rw [HN.out]; omega)]
      have : (l.take 600).any bgQ = false := by
        rw [e, List.any_eq_false]
        intro y hy
        rw [H0.out y hy]; simp
      rw [this, HN.out, Bool.false_or])
    by_cases hin : i < n ∧ i < 600
    · obtain ⟨hin1, hin2⟩ := hin
      have hi2 : (i : Int) < (n : Int) := by omega
      have hi3 : (i : Int) < 600 := by omega
      obtain ⟨b, o, x, rfl, hx, hsm, hc⟩ := HI.out.at3 i (by rw [HN.out]; exact hin1)
      have HC := Lib.hid hc
      have HXX := Lib.hid hx
      obtain ⟨xw, xn, xd⟩ := x
      dsimp only at HC
      obtain ⟨s, hs⟩ : ∃ s : Nat, xn.size = s := ⟨_, rfl⟩
      have HBG := Lib.hid (show bgQ ⟨xw, xn, xd⟩ = decide (1000 < s) by unfold bgQ; dsimp only; rw [hs])
      clear hsm
      clear hc hx
      obtain ⟨c0, c1, c2⟩ := HC.out wr HB.out
      by_cases hgt : s > 1000
      · have hg2 : (s : Int) > 1000 := by omega
        have hg3 : decide ((1000 : Int) < (xn.size : Int)) = true := decide_eq_true (by omega)
        have HG := Lib.hid (show R = true by
          rw [← HRR.out]
          unfold grQ
          have : (l.take 600).any bgQ = true := by
            rw [List.any_eq_true]
            exact ⟨_, List.mem_of_getElem? (by rw [List.getElem?_take_of_lt hin2]; exact HXX.out), by rw [HBG.out]; simpa using hgt⟩
          rw [this]; rfl)
        clear hgt
        go_wp2_with fail
        go_ret
        exact ⟨by rw [HG.out]; rfl, by first | exact HB.out | exact HB.out.trans ((below_dn _).mono HB.out.size)⟩
      · have hg2 : ¬ (xn.size : Int) > 1000 := by omega
        have hg3 : decide ((1000 : Int) < (xn.size : Int)) = false := decide_eq_false (by omega)
        have HG := Lib.hid (show bgQ ⟨xw, xn, xd⟩ = false by rw [HBG.out]; simpa using hgt)
        clear hgt
        go_wp2_with fail
        go_roundw
        case rel =>
          refine ⟨i + 1, by omega, by omega, by go_num, Lib.hid (fun y hy => ?_), by first | exact HB | exact Lib.hid (HB.out.trans ((below_dn _).mono HB.out.size))⟩
          rw [List.take_add_one, HXX.out, List.mem_append] at hy
          rcases hy with hy | hy
          · exact H0.out y hy
          · simp at hy; rw [hy]; exact HG.out
        case measure => simp [intOf]; omega
    · by_cases hin1 : i < n
      · have hi600 : i = 600 := by omega
        subst hi600
        have hi2 : ((600 : Nat) : Int) < (n : Int) := by omega
        have hi2b : (600 : Int) < (n : Int) := by omega
        have hg : (n : Int) > 400 := by omega
        have HF := Lib.hid (show R = true by rw [HNO.out (.inl rfl)]; exact decide_eq_true (by omega))
        go_wp2_with fail
        go_ret
        exact ⟨by rw [HF.out]; first | rfl | simp | (simp; omega), HB.out⟩
      · have hi2 : ¬ (i : Int) < (n : Int) := by omega
        have hi2b : decide ((i : Int) < (n : Int)) = false := decide_eq_false hi2
        have HF0 := Lib.hid (HNO.out (.inr (by omega)))
        by_cases hg : n > 400
        · have hg2 : (n : Int) > 400 := by omega
          have HF := Lib.hid (show R = true by rw [HF0.out]; exact decide_eq_true (by omega))
          go_wp2_with fail
          go_ret
          exact ⟨by rw [HF.out]; first | rfl | simp | (simp; omega), HB.out⟩
        · have hg2 : decide ((n : Int) > 400) = false := decide_eq_false (by omega)
          have hg3 : decide ((400 : Int) < (n : Int)) = false := decide_eq_false (by omega)
          have HF := Lib.hid (show R = false by rw [HF0.out]; exact decide_eq_false (by omega))
          go_wp2_with fail
          go_ret
          exact ⟨by rw [HF.out]; first | rfl | simp | (simp; omega), HB.out⟩
set_option maxRecDepth 100000 in
set_option maxHeartbeats 4000000 in
/-- without: a row but for one number. -/
theorem qwithout_ok (A : Option Addr) (c : Nat) (L : List Int) (K : List Nat) (u : World) (n : Nat) (x : Int) (hn : L.length = n) (hR : Ri u K A L) (hc : n ≤ 1000000) :
    Calls Try.prog 25 #[.slice A n c, .int .i64 x] u fun e u' => ∃ A2 c2 m, e = .returned (.slice A2 m c2) ∧ (L.filter (· != x)).length = m ∧ OI u' u.heap.size A2 c2 (L.filter (· != x)) ∧ Below u.heap.size u u' := by
  have HA := Lib.hid hR
  have HL := Lib.hid hn
  clear hR hn
  go_enter Try.func25, Try.ntmps25
  go_wp2_with fail
  go_loopw [5, 6] (fun v5 v6 wr => ∃ (i m : Nat) (A2 : Option Addr) (c2 : Nat), i ≤ n ∧ m ≤ i ∧ v5 = .slice A2 m c2 ∧ v6 = .int .i64 (i : Int) ∧ Hid (((L.take i).filter (· != x)).length = m) ∧ Hid (OI wr u.heap.size A2 c2 ((L.take i).filter (· != x))) ∧ Hid (Below u.heap.size u wr)) (fun v5 v6 _ => n - (intOf v6).toNat)
  case atStart => exact ⟨0, 0, none, 0, by omega, by omega, rfl, rfl, Lib.hid rfl, Lib.hid (OI.nil _ _), Lib.hid (Below.refl _ _)⟩
  case round =>
    obtain ⟨i, m, A2, c2, hi, hm, rfl, rfl, HM, HO, HB⟩ := hrel
    by_cases hi1 : i < n
    · have hi2 : (i : Int) < (n : Int) := by omega
      obtain ⟨b, o, y, rfl, hy, hl⟩ := (HA.out.below HB.out (Nat.le_refl _)).at_ (i := i) (by rw [HL.out]; exact hi1)
      have HT := Lib.hid (show (L.take (i + 1)).filter (· != x) = (L.take i).filter (· != x) ++ (if (y != x) = true then [y] else []) by
        rw [List.take_add_one, hl, show (some y).toList = [y] from rfl, List.filter_append, List.filter_cons, List.filter_nil])
      clear hl
      by_cases hyx : y = x
      · have hb : (y != x) = false := by simp [hyx]
        have HT2 := Lib.hid (show (L.take (i + 1)).filter (· != x) = (L.take i).filter (· != x) by rw [HT.out, hb]; simp)
        clear hyx
        go_wp2_with fail
        go_roundw
        case rel => exact ⟨i + 1, m, A2, c2, by omega, by omega, rfl, by go_num, Lib.hid (by rw [HT2.out]; exact HM.out), Lib.hid (by rw [HT2.out]; exact HO.out), HB⟩
        case measure => simp [intOf]; omega
      · have hb : (y != x) = true := by simp [hyx]
        have HT2 := Lib.hid (show (L.take (i + 1)).filter (· != x) = (L.take i).filter (· != x) ++ [y] by rw [HT.out, hb]; simp)
        have HO3 := Lib.hid (show OI (wr.alloc (.cells #[.int .i64 y] 3)) u.heap.size A2 c2 ((L.take i).filter (· != x)) from HO.out.keep fun g cs _ hh => hh.alloc _)
        have HB3 := Lib.hid (HB.out.alloc HB.out.size (.cells #[.int .i64 y] 3))
        have HC3 := Lib.hid (show (wr.alloc (.cells #[.int .i64 y] 3)).cell? ⟨wr.heap.size, 0, none⟩ = some (.int .i64 y) from (Bk.new wr 3 #[.int .i64 y]).cell 0)
        clear hyx
        go_wp2_with (at_builtin; refine wp_app_int rfl (.tmp 19) (.tmp 24) rfl u.heap.size ((L.take i).filter (· != x)) A2 m c2 rfl HM.out HO3.out y wr.heap.size rfl HC3.out (by omega) HB3.out.size (m + 1) rfl ?_; intro A4 c4 w4 ho hb4; have HO4 := Lib.hid ho; have HB4 := Lib.hid (HB3.out.trans hb4); clear ho hb4)
        go_roundw
        case rel => exact ⟨i + 1, m + 1, A4, c4, by omega, by omega, by first | rfl | go_num, by go_num, Lib.hid (by rw [HT2.out, List.length_append, HM.out]; rfl), Lib.hid (by rw [HT2.out]; exact HO4.out), HB4⟩
        case measure => simp [intOf]; omega
    · have hi2 : ¬ (i : Int) < (n : Int) := by omega
      have HT := Lib.hid (show L.take i = L from List.take_of_length_le (by rw [HL.out]; omega))
      rw [HT.out] at HM HO
      go_wp2_with fail
      go_ret
      exact ⟨A2, c2, m, rfl, HM.out, HO.out, HB.out⟩
set_option maxRecDepth 100000 in
set_option maxHeartbeats 16000000 in
theorem qhead_ok (w : World) : Calls Try.prog 9 #[] w fun e w' => e = .returned (.bool true) ∧ Below w.heap.size w w' := by
  have HNEW := Lib.hid (w_qnew (W := w) (u := w) (Below.refl _ w))
  go_enter Try.func9, Try.ntmps9
  go_upto_region 4 with (go_at_call 10; (with_reducible refine HNEW.out.mono ?_); rintro e u0 ⟨G0, qb, rfl, h1, h2, h3⟩; have HL0 := Lib.hid h1; clear h1 h2 h3)
  go_upto_region 5 with (go_at_call 17; (with_reducible refine (w_qput HL0.out ⟨#[119, 101, 98]⟩ 1 (by decide) (by decide) 0 [⟨⟨#[119, 101, 98]⟩, 1⟩] (by kernel_rfl)).mono ?_); rintro e u1 ⟨G1, rfl, h1, h2⟩; have HL1 := Lib.hid h1; clear h1 h2)
  go_upto_region 6 with (go_at_call 17; (with_reducible refine (w_qput HL1.out ⟨#[119, 101, 98]⟩ 2 (by decide) (by decide) 0 [⟨⟨#[119, 101, 98]⟩, 1⟩, ⟨⟨#[119, 101, 98]⟩, 2⟩] (by kernel_rfl)).mono ?_); rintro e u2 ⟨G2, rfl, h1, h2⟩; have HL2 := Lib.hid h1; clear h1 h2)
  go_upto_region 7 with (go_at_call 17; (with_reducible refine (w_qput HL2.out ⟨#[102, 116, 112]⟩ 1 (by decide) (by decide) 4 [⟨⟨#[119, 101, 98]⟩, 1⟩, ⟨⟨#[119, 101, 98]⟩, 2⟩] (by kernel_rfl)).mono ?_); rintro e u3 ⟨G3, rfl, h1, h2⟩; have HL3 := Lib.hid h1; clear h1 h2)
  go_upto_region 8 with (go_at_call 17; (with_reducible refine (w_qput HL3.out ⟨#[102, 116, 112]⟩ 3 (by decide) (by decide) 0 [⟨⟨#[119, 101, 98]⟩, 1⟩, ⟨⟨#[119, 101, 98]⟩, 2⟩, ⟨⟨#[102, 116, 112]⟩, 3⟩] (by kernel_rfl)).mono ?_); rintro e u4 ⟨G4, rfl, h1, h2⟩; have HL4 := Lib.hid h1; clear h1 h2)
  go_upto_region 9 with (go_at_call 19; go_loud ((with_reducible refine (w_qwhere HL4.out 3 (by decide) ⟨#[102, 116, 112]⟩ true ⟨by kernel_rfl, by kernel_rfl⟩).mono ?_); rintro e u5 ⟨rfl, hu⟩; rw [hu]; clear hu))
  go_upto_region 10 with (go_at_call 15; (with_reducible refine (w_qdrop HL4.out 1 (by decide) true [⟨⟨#[119, 101, 98]⟩, 2⟩, ⟨⟨#[102, 116, 112]⟩, 3⟩] (by kernel_rfl)).mono ?_); rintro e u6 ⟨rfl, h1, h2⟩; have HL6 := Lib.hid h1; clear h1 h2)
  go_upto_region 11 with (go_at_call 13; (with_reducible refine (w_qtake HL6.out ⟨#[119, 101, 98]⟩ (by decide) 2 true [⟨⟨#[102, 116, 112]⟩, 3⟩] (by kernel_rfl)).mono ?_); rintro e u7 ⟨rfl, h1, h2⟩; have HL7 := Lib.hid h1; clear h1 h2)
  go_upto_region 12 with (go_at_call 13; (with_reducible refine (w_qtake HL7.out ⟨#[119, 101, 98]⟩ (by decide) 0 false [⟨⟨#[102, 116, 112]⟩, 3⟩] (by kernel_rfl)).mono ?_); rintro e u8 ⟨rfl, h1, h2⟩; have HL8 := Lib.hid h1; clear h1 h2)
  go_wp2_with (first
    | (go_at_call 21; (with_reducible refine (w_qmany HL8.out 1 rfl).mono ?_); rintro e u9 ⟨rfl, h1⟩; have HL9 := Lib.hid (HL8.out.on h1); clear h1)
    | (go_at_call 23; (with_reducible refine (w_qlist HL9.out ⟨#[102, 116, 112]⟩ (by decide) [3] 1 ⟨by kernel_rfl, by kernel_rfl⟩).mono ?_); rintro e ua ⟨A, c, rfl, h1, h2⟩; have HLa := Lib.hid (HL9.out.on h2); clear h1 h2))
  go_ret
  exact ⟨rfl, HLa.out.l⟩
end Go.Proofs.Ytikkiifcnjiegaa
