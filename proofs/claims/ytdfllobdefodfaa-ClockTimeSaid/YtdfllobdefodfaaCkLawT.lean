/- ClockTime: the walk. -/
import Derived.Test.YtdfllobdefodfaaCkHead
namespace Go.Proofs.Ytdfllobdefodfaa
set_option linter.unusedVariables false
set_option linter.unusedSimpArgs false
open Go.RowKit

theorem InN.get {k : IntKind} {W u : World} {A : Option Addr} {l : List Int} {n c : Nat} (h : InN k W A l n c) (hb : Below W.heap.size W u) {i : Nat} (hi : i < n) : ∃ b o x, A = some ⟨b, o, none⟩ ∧ u.cell? ⟨b, o + i, none⟩ = some (.int k x) ∧ l[i]? = some x ∧ (Lit.int k x).wf = true := by
  have hil : i < l.length := by rw [h.len]; exact hi
  rcases h.at_ with h0 | ⟨b, o, e, hlt, hc⟩
  · omega
  · exact ⟨b, o, l[i], e, (hb.cell (p := ⟨b, o + i, none⟩) hlt).trans (hc i hil), List.getElem?_eq_getElem hil, h.wf _ (List.getElem_mem hil)⟩
theorem Below.ke0 {W u u' : World} (h : Below W.heap.size W u) (k : Ke [] u u') : Below W.heap.size W u' := h.trans (k.below h.size (by simp))

abbrev one41 : List Ky := [(1, 2199023255552)]
set_option maxRecDepth 100000 in
set_option maxHeartbeats 8000000 in
theorem walk_ClockTime (A : Option Addr) (l : List Int) (n cp : Nat) (W : World) (w0 : InN .i64 W A l n cp) :
    Calls Try.prog 8 #[.slice A n cp] W fun e w' => e = .returned (.bool true) ∧ Below W.heap.size W w' := by
  have HH := Lib.hid (chead_ok W)
  have HIN := Lib.hid w0
  have hnm : n ≤ 9223372036854775807 := by have h1 := w0.cap; have h2 := w0.max; unfold maxLen at h2; omega
  clear w0
  have HW1 := Lib.hid (show Wf 1 by decide)
  go_enter Try.func8, Try.ntmps8
  go_upto_region 2 with (go_at_call 9; refine HH.out.mono ?_; rintro e u1 ⟨rfl, h1⟩)
  have HB1 := Lib.hid (Below.ke0 (Below.refl _ W) h1)
  clear h1
  go_upto_region 3 with (go_at_call 10; refine (w_new HB1.out).mono ?_; rintro e u2 ⟨G0, c, rfl, h1, _, _⟩)
  have R2 := Lib.hid h1
  clear h1
  by_cases hbig : 300 < n
  · have hb2 : (300 : Int) < (n : Int) := by omega
    go_wp2_with fail
    go_ret
    exact ⟨rfl, R2.out.b⟩
  · have hb2 : ¬ (300 : Int) < (n : Int) := by omega
    have hb3 : n ≤ 300 := by omega
    go_wp2_with (go_at_call 17; refine (w_set R2.out 1 HW1.out 2199023255552 0 one41 (by decide) (by decide)).mono ?_; rintro e u3 ⟨G1, rfl, h1, _⟩; have R3 := Lib.hid h1; clear h1)
    go_loopw [5, 6] (fun v5 v6 wr => ∃ (i : Nat) (nw : Int), i ≤ n ∧ v6 = .int .i64 (i : Int) ∧ v5 = .int .i64 nw ∧ 0 ≤ nw ∧ nw ≤ 1099511627776 ∧ Hid (∃ G, Cw W wr G c nw one41)) (fun _ v6 _ => n - (intOf v6).toNat)
    case atStart => exact ⟨0, 0, by omega, rfl, rfl, by omega, by omega, Lib.hid ⟨_, R3.out⟩⟩
    case round =>
      obtain ⟨i, nw, hi, rfl, rfl, hw0, hw1, HR⟩ := hrel
      obtain ⟨G, HC⟩ := HR.out
      have HCC := Lib.hid HC
      clear HC
      by_cases hin : i < n
      · have hi2 : (i : Int) < (n : Int) := by omega
        obtain ⟨b, o, x, rfl, hcell, _, hwf⟩ := HIN.out.get HCC.out.b hin
        have HWF := Lib.hid hwf
        clear hwf
        by_cases hneg : 0 ≤ x
        · by_cases hle : x ≤ 1099511627776 - nw
          · obtain ⟨nx, hnx⟩ : ∃ nx, nw + x = nx := ⟨_, rfl⟩
            have hnx0 : 0 ≤ nx := by omega
            have hnx1 : nx ≤ 1099511627776 := by omega
            have HG := Lib.hid (show goM nx one41 = [] ∧ stayM nx one41 = one41 by
              have : ¬ (2199023255552 : Int) ≤ nx := by omega
              simp [goM, stayM, this])
            go_wp2_with (first
              | (go_at_call 14; refine (w_tick HCC.out x HWF.out hneg hle nx [] one41 0 hnx HG.out.1 HG.out.2 rfl).mono ?_; rintro e w1 ⟨A2, cp2, rfl, _, _, _, _, h1, _⟩; have R4 := Lib.hid h1; clear h1)
              | (go_at_call 21; refine (w_now R4.out).mono ?_; rintro e w2 ⟨rfl, rfl⟩)
              | (go_at_call 22; refine (w_many R4.out 1 rfl).mono ?_; rintro e w3 ⟨rfl, rfl⟩))
            go_roundw
            case rel => exact ⟨i + 1, nx, by omega, by go_num, by first | rfl | (rw [hnx]), hnx0, hnx1, Lib.hid ⟨_, R4.out⟩⟩
            case measure => simp [intOf]; omega
          · have hd : decide (x ≤ 1099511627776 - nw) = false := by simp; omega
            go_wp2_with (first
              | (go_at_call 14; refine (w_tick_bad HCC.out x HWF.out (.inr (by omega))).mono ?_; rintro e w1 ⟨rfl, h1, _⟩; have R4 := Lib.hid h1; clear h1)
              | (go_at_call 21; refine (w_now R4.out).mono ?_; rintro e w2 ⟨rfl, rfl⟩)
              | (go_at_call 22; refine (w_many R4.out 1 rfl).mono ?_; rintro e w3 ⟨rfl, rfl⟩))
            go_roundw
            case rel => exact ⟨i + 1, nw, by omega, by go_num, rfl, hw0, hw1, Lib.hid ⟨_, R4.out⟩⟩
            case measure => simp [intOf]; omega
        · have hd : decide (0 ≤ x) = false := by simp; omega
          go_wp2_with (first
            | (go_at_call 14; refine (w_tick_bad HCC.out x HWF.out (.inl (by omega))).mono ?_; rintro e w1 ⟨rfl, h1, _⟩; have R4 := Lib.hid h1; clear h1)
            | (go_at_call 21; refine (w_now R4.out).mono ?_; rintro e w2 ⟨rfl, rfl⟩)
            | (go_at_call 22; refine (w_many R4.out 1 rfl).mono ?_; rintro e w3 ⟨rfl, rfl⟩))
          go_roundw
          case rel => exact ⟨i + 1, nw, by omega, by go_num, rfl, hw0, hw1, Lib.hid ⟨_, R4.out⟩⟩
          case measure => simp [intOf]; omega
      · have hi2 : ¬ (i : Int) < (n : Int) := by omega
        have hd : decide ((i : Int) < (n : Int)) = false := by simp; omega
        go_wp2_with fail
        go_ret
        exact ⟨rfl, HCC.out.b⟩
end Go.Proofs.Ytdfllobdefodfaa
