/- The document's own: time, num, line: their contracts. -/
import Derived.Test.YtekobdmlgbffnaaGreatDoorG3
import Derived.Test.YtekobdmlgbffnaaGreatDoorG11
import Derived.Test.YtekobdmlgbffnaaGreatDoorG8
namespace Go.Proofs.YtekobdmlgbffnaaGreatDoor
set_option linter.unusedVariables false
set_option maxRecDepth 100000
set_option linter.unusedSimpArgs false
open Go.RowKit

theorem rtime_ok (n : Int) (w : World) :
    Calls Tryz.prog 48 #[.int .i64 n] w fun e w' => e = .returned (.bool (timB n)) ∧ Below w.heap.size w w' := by
  have HT := Lib.hid (show timB n = (decide (1 ≤ n) && decide (n ≤ 1073741824)) from rfl)
  by_cases h1 : 1 ≤ n
  · have h2 : decide (1 ≤ n) = true := decide_eq_true h1
    go_enter Tryz.func48, Tryz.ntmps48
    go_wp2
    go_ret
    exact ⟨by rw [HT.out, h2, Bool.true_and]; rfl, Below.refl _ _⟩
  · have h2 : decide (1 ≤ n) = false := decide_eq_false h1
    go_enter Tryz.func48, Tryz.ntmps48
    go_wp2
    go_ret
    exact ⟨by rw [HT.out, h2]; rfl, Below.refl _ _⟩

theorem rnum_ok (n : Nat) (w : World) (h1 : n ≤ 1099511627776) :
    Calls Tryz.prog 54 #[.int .i64 n] w fun e w' => e = .returned (.string (bs (decB n))) ∧ Below w.heap.size w w' := by
  have HD := Lib.hid (fun u => rdec_ok n u h1)
  go_enter Tryz.func54, Tryz.ntmps54
  go_wp2_with (go_at_call 96; (with_reducible refine (HD.out _).mono ?_); rintro e u ⟨rfl, hb⟩)
  go_ret
  exact ⟨rfl, hb⟩

theorem joinL_snoc (c : UInt8) : ∀ (l : List (List UInt8)) (x : List UInt8), l ≠ [] → joinL c (l ++ [x]) = joinL c l ++ c :: x
  | [], _, h => absurd rfl h
  | [p], x, _ => by show p ++ c :: joinL c [x] = _; rfl
  | p :: q :: ps, x, _ => by
    show p ++ c :: joinL c (q :: ps ++ [x]) = (p ++ c :: joinL c (q :: ps)) ++ c :: x
    rw [joinL_snoc c (q :: ps) x (by simp), List.append_assoc, List.cons_append]
theorem joinL_app (c : UInt8) : ∀ (l r : List (List UInt8)), (joinL c l).length ≤ (joinL c (l ++ r)).length
  | [], r => by simp [joinL]
  | [p], [] => by simp
  | [p], q :: r => by show p.length ≤ (p ++ c :: joinL c (q :: r)).length; rw [List.length_append]; omega
  | p :: q :: ps, r => by
    have ih := joinL_app c (q :: ps) r
    show (p ++ c :: joinL c (q :: ps)).length ≤ (p ++ c :: joinL c (q :: ps ++ r)).length
    rw [List.length_append, List.length_append, List.length_cons, List.length_cons]; omega

set_option maxRecDepth 100000 in
set_option maxHeartbeats 2000000 in
theorem rline_ok (b o n c : Nat) (ws : List (List UInt8)) (w : World) (hn : ws.length = n) (hn9 : n ≤ 1099511627776) (hlt : b < w.heap.size) (hc : ∀ j x, ws[j]? = some x → w.cell? ⟨b, o + j, none⟩ = some (.string (bs x))) (hsz : (lineT ws).length ≤ 9223372036854775807) :
    Calls Tryz.prog 53 #[.slice (some ⟨b, o, none⟩) n c] w fun e w' => e = .returned (.string (bs (lineT ws))) ∧ Below w.heap.size w w' := by
  have HC := Lib.hid hc
  have HN := Lib.hid hn
  obtain ⟨R, hR⟩ : ∃ R, lineT ws = R := ⟨_, rfl⟩
  rw [hR]
  have hsz2 : (joinL 32 ws).length + 1 ≤ 9223372036854775807 := by have := hsz; unfold lineT at this; rw [List.length_append] at this; exact this
  have HS := Lib.hid (show ∀ i x, ws[i]? = some x → (joinL 32 (ws.take i)).length + 1 + x.length ≤ 9223372036854775807 ∧ joinL 32 (ws.take (i + 1)) = (if i = 0 then x else joinL 32 (ws.take i) ++ [32] ++ x) ∧ (joinL 32 (ws.take (i + 1))).length ≤ 9223372036854775806 from fun i x hx => by
    have e : ws.take (i + 1) = ws.take i ++ [x] := by rw [List.take_add_one, hx]; rfl
    have h1 := joinL_app 32 (ws.take (i + 1)) (ws.drop (i + 1))
    rw [List.take_append_drop] at h1
    have hi : i < ws.length := (List.getElem?_eq_some_iff.1 hx).1
    by_cases h0 : i = 0
    · subst h0
      rw [e] at h1 ⊢
      simp only [List.take_zero, List.nil_append, joinL, if_true] at h1 ⊢
      exact ⟨by simp; omega, by first | trivial | rfl, by omega⟩
    · have hne : ws.take i ≠ [] := by
        intro h
        have := congrArg List.length h
        rw [List.length_take, show ([] : List (List UInt8)).length = 0 from rfl] at this
        omega
      rw [e, joinL_snoc 32 _ _ hne] at h1 ⊢
      rw [if_neg h0]
      rw [List.length_append, List.length_cons] at h1
      exact ⟨by omega, by simp, by rw [List.length_append, List.length_cons]; omega⟩)
  have HR := Lib.hid (show joinL 32 ws ++ [10] = R from hR)
  have HZ := Lib.hid (show (joinL 32 ws).length + [(10 : UInt8)].length ≤ 9223372036854775807 from hsz2)
  clear hn hc hR hsz hsz2
  go_enter Tryz.func53, Tryz.ntmps53
  go_wp2
  go_loopw [3, 4] (fun v3 v4 wr => ∃ (i : Nat) (T : List UInt8), i ≤ n ∧ v3 = .string (bs T) ∧ v4 = .int .i64 (i : Int) ∧ Hid (T = joinL 32 (ws.take i)) ∧ Hid (Below w.heap.size w wr)) (fun _ v4 _ => n - (intOf v4).toNat)
  case atStart => exact ⟨0, [], by omega, rfl, rfl, Lib.hid rfl, Lib.hid (Below.refl _ _)⟩
  case round =>
    obtain ⟨i, T, hi, rfl, rfl, HT, HB⟩ := hrel
    by_cases hi1 : i < n
    · have hi2 : (i : Int) < (n : Int) := by omega
      obtain ⟨x, hx⟩ : ∃ x, ws[i]? = some x := ⟨_, List.getElem?_eq_getElem (by rw [HN.out]; exact hi1)⟩
      have c0 : wr.cell? ⟨b, o + i, none⟩ = some (.string (bs x)) := (HB.out.cell (p := ⟨b, o + i, none⟩) hlt).trans (HC.out i x hx)
      obtain ⟨s1, s2, s3⟩ := HS.out i x hx
      rw [← HT.out] at s1 s2
      have HL1 := Lib.hid (show T.length + [(32 : UInt8)].length ≤ 9223372036854775807 by show T.length + 1 ≤ _; omega)
      have HL2 := Lib.hid (show (T ++ [32]).length + x.length ≤ 9223372036854775807 by rw [List.length_append]; show T.length + 1 + x.length ≤ _; omega)
      have HL3 := Lib.hid (show T.length + x.length ≤ 9223372036854775807 by omega)
      have HS2 := Lib.hid s2
      clear hx s1 s2 s3
      by_cases h0 : i = 0
      · have h1 : ¬ (0 : Int) < (i : Int) := by omega
        have h1b : decide ((0 : Int) < (i : Int)) = false := decide_eq_false h1
        have h1c : ¬ 0 < i := by omega
        have HE := Lib.hid h0
        have HTE := Lib.hid (show T = [] by rw [HT.out, h0]; rfl)
        clear h0
        go_wp2_with (refine wpList_cat (by kernel_rfl) (.tmp 15) (.tmp 19) _ _ rfl T x (T ++ x) rfl rfl HL3.out rfl ?_)
        go_roundw
        case rel => exact ⟨i + 1, T ++ x, by omega, rfl, by go_num, Lib.hid (by rw [HS2.out, if_pos HE.out, HTE.out]; rfl), HB⟩
        case measure => simp [intOf]; omega
      · have h1 : (0 : Int) < (i : Int) := by omega
        have h1b : decide ((0 : Int) < (i : Int)) = true := decide_eq_true h1
        have h1c : 0 < i := by omega
        have HE := Lib.hid h0
        clear h0
        go_wp2_with (first
          | (refine wpList_cat (by kernel_rfl) (.tmp 13) (.const (.string ⟨#[32]⟩)) _ _ rfl T [32] (T ++ [32]) rfl rfl HL1.out rfl ?_)
          | (refine wpList_cat (by kernel_rfl) (.tmp 15) (.tmp 19) _ _ rfl (T ++ [32]) x (T ++ [32] ++ x) rfl rfl HL2.out rfl ?_))
        go_roundw
        case rel => exact ⟨i + 1, T ++ 32 :: x, by omega, rfl, by go_num, Lib.hid (by rw [HS2.out, if_neg HE.out]; simp), HB⟩
        case measure => simp [intOf]; omega
    · have hi2 : ¬ (i : Int) < (n : Int) := by omega
      have HTW := Lib.hid (show T = joinL 32 ws by rw [HT.out, List.take_of_length_le (by rw [HN.out]; omega)])
      have HZ2 := Lib.hid (show T.length + [(10 : UInt8)].length ≤ 9223372036854775807 by rw [HTW.out]; exact HZ.out)
      go_wp2_with (refine wpList_cat (by kernel_rfl) (.tmp 21) (.const (.string ⟨#[10]⟩)) _ _ rfl T [10] (T ++ [10]) rfl rfl HZ2.out rfl ?_)
      go_ret
      exact ⟨by rw [← HR.out, ← HTW.out]; rfl, HB.out⟩
end Go.Proofs.YtekobdmlgbffnaaGreatDoor
