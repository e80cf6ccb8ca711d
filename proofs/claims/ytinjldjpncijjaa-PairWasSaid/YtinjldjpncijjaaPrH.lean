/- What pair's laws share: calls that came in, has, head. (Begun in round 15, ahead of the landing.) -/
import Derived.Test.YtinjldjpncijjaaG7
import Derived.BigRegion
import Derived.Deep.RegionLaw
import Derived.Deep.Cut
import Derived.BigQuiet
namespace Go.Proofs.Ytinjldjpncijjaa
set_option linter.unusedVariables false
set_option maxRecDepth 100000
set_option linter.unusedSimpArgs false
open Go.RowKit

set_option maxRecDepth 100000 in
set_option maxHeartbeats 2000000 in
theorem phas_ok (A : Option Addr) (l : List Int) (n c : Nat) (u : World) (id : Int) (h : Rw 1 piv u A l) (hn : l.length = n) (hf : n ≤ 1000000) (R : Bool) (hR : decide (id ∈ l) = R) :
    Calls Try.prog 22 #[.slice A n c, .int .i64 id] u fun e u' => e = .returned (.bool R) ∧ Below u.heap.size u u' := by
  have HR := Lib.hid h
  have HN := Lib.hid hn
  have HE := Lib.hid hR
  clear h hn hR
  go_enter Try.func22, Try.ntmps22
  go_wp2
  go_loopw [5] (fun v3 wr => ∃ i : Nat, i ≤ n ∧ v3 = .int .i64 (i : Int) ∧ Hid (id ∉ l.take i) ∧ Hid (Below u.heap.size u wr)) (fun v3 _ => n - (intOf v3).toNat)
  case atStart => exact ⟨0, by omega, rfl, Lib.hid (by simp), Lib.hid (Below.refl _ _)⟩
  case round =>
    obtain ⟨i, hi, rfl, H0, HB⟩ := hrel
    by_cases hi1 : i < n
    · have hi2 : (i : Int) < (n : Int) := by omega
      obtain ⟨b, o, x, rfl, hx, hc⟩ := rowPI HR.out i (by rw [HN.out]; exact hi1)
      have x0 := hc wr HB.out
      have HX := Lib.hid hx
      obtain ⟨q, hq⟩ : ∃ q, (x == id) = q := ⟨_, rfl⟩
      have HQ := Lib.hid hq
      clear hc hx
      cases q with
      | true =>
        have HP := Lib.hid (show R = true from by
          rw [← HE.out, decide_eq_true_iff]
          have : x = id := by simpa using HQ.out
          rw [← this]
          exact List.mem_of_getElem? HX.out)
        go_wp2
        go_ret
        exact ⟨by rw [HP.out]; rfl, HB.out⟩
      | false =>
        go_wp2
        go_roundw
        case rel =>
          refine ⟨i + 1, by omega, by go_num, Lib.hid (fun hy => ?_), HB⟩
          rw [List.take_add_one, HX.out, List.mem_append] at hy
          rcases hy with hy | hy
          · exact H0.out hy
          · simp at hy
            have := HQ.out
            rw [hy] at this
            simp at this
        case measure => simp [intOf] <;> omega
    · have hi2 : ¬ (i : Int) < (n : Int) := by omega
      have HP := Lib.hid (show R = false from by
        rw [← HE.out, decide_eq_false_iff_not]
        intro hm
        exact H0.out (by rw [List.take_of_length_le (by rw [HN.out]; omega)]; exact hm))
      go_wp2
      go_ret
      exact ⟨by rw [HP.out]; rfl, HB.out⟩
theorem Tu.zp {e : TypeId} {W u u' : World} {G H : List Nat} {tb : Nat} {t : Tp} (s : Tu e W G u u') (h : Zp W u H tb t) (hH : ∀ y ∈ H, y ∈ G) : Zp W u' H tb t := by
  obtain ⟨K, k1, k2⟩ := s
  exact h.ke k1 (fun y hy hx => (k2 y hx).1 (hH y hy)) (h.l.trans (k1.below h.l.size (fun x hx => (k2 x hx).2.1)))
theorem gp_set {t t2 : Tp} {v c er : Int} (h : Gp t) (e : joinP t v c = (er, t2)) : Gp t2 := by
  have := gp_join h v c
  rw [e] at this
  exact this
theorem gp_out {t t2 : Tp} {id : Int} {r : Int × Bool} (h : Gp t) (e : partP t id = (r, t2)) : Gp t2 := by
  have := gp_part h id
  rw [e] at this
  exact this
abbrev hT1 : Tp := ⟨[⟨5, 2⟩], [5, 2]⟩
abbrev hT2 : Tp := ⟨[⟨3, 4⟩, ⟨5, 2⟩], [5, 2, 3, 4]⟩
abbrev hT3 : Tp := ⟨[⟨3, 4⟩], [5, 2, 3, 4]⟩
theorem hj1 : joinP ⟨[], []⟩ 5 2 = (0, hT1) := by rfl
theorem hj2 : joinP hT1 3 4 = (0, hT2) := by rfl
theorem hj3 : joinP hT2 1 2 = (4, hT2) := by rfl
theorem hj4 : joinP hT2 6 6 = (1, hT2) := by rfl
theorem hj5 : joinP hT3 5 9 = (4, hT3) := by rfl
theorem hp1 : partP hT2 2 = ((5, true), hT3) := by rfl
theorem gpT1 : Gp hT1 := gp_set gp_nil hj1
theorem gpT2 : Gp hT2 := gp_set gpT1 hj2
theorem gpT3 : Gp hT3 := gp_out gpT2 hp1
set_option maxRecDepth 100000 in
set_option maxHeartbeats 8000000 in
theorem phead_ok (w : World) : Calls Try.prog 9 #[] w fun e w' => e = .returned (.bool true) ∧ Below w.heap.size w w' := by
  have HEQ := Lib.hid (show eqPp ⟨3, 4⟩ ⟨3, 4⟩ = true from (eqPp_iff _ _).2 rfl)
  go_enter Try.func9, Try.ntmps9
  go_upto_region 2 with (go_at_call 10; (with_reducible refine (z_pnew (W := w) (Below.refl _ _)).mono ?_); rintro e u1 ⟨H1, tb, rfl, h1, -, -⟩; have HZ1 := Lib.hid h1; clear h1)
  go_upto_region 5 with (go_at_call 14; (with_reducible refine (z_join HZ1.out gp_nil (by decide) 5 2 0 hT1 hj1).mono ?_); rintro e u2 ⟨H2, rfl, h1, -⟩; have HZ2 := Lib.hid h1; clear h1)
  go_upto_region 6 with (go_at_call 14; (with_reducible refine (z_join HZ2.out gpT1 (by decide) 3 4 0 hT2 hj2).mono ?_); rintro e u3 ⟨H3, rfl, h1, -⟩; have HZ3 := Lib.hid h1; clear h1)
  go_upto_region 7 with (go_at_call 14; (with_reducible refine (z_join HZ3.out gpT2 (by decide) 1 2 4 hT2 hj3).mono ?_); rintro e u4 ⟨H4, rfl, h1, -⟩; have HZ4 := Lib.hid h1; clear h1)
  go_upto_region 8 with (go_at_call 14; (with_reducible refine (z_join HZ4.out gpT2 (by decide) 6 6 1 hT2 hj4).mono ?_); rintro e u5 ⟨H5, rfl, h1, -⟩; have HZ5 := Lib.hid h1; clear h1)
  go_upto_region 9 with (go_at_call 21; (with_reducible refine (z_all HZ5.out gpT2 (by decide) 2 rfl).mono ?_); rintro e u6 ⟨A6, c6, rfl, h1, h2⟩; have HZ6 := Lib.hid (HZ5.out.on h2); have HR6 := Lib.hid (Lrk.of h1 HZ5.out.l.size HZ5.out.hi); clear h1 h2)
  go_upto_region 10 with (go_at_call 12; (with_reducible refine (z_part HZ6.out gpT2 (by decide) 2 5 true hT3 hp1).mono ?_); rintro e u7 ⟨H7, rfl, h1, h2⟩; have HZ7 := Lib.hid h1; have HR7 := Lib.hid (HR6.out.step h2); clear h1 h2)
  go_upto_region 11 with (go_at_call 16; (with_reducible refine (z_other HZ7.out gpT3 (by decide) 5 0 false rfl).mono ?_); rintro e u8 ⟨rfl, h1⟩; have HZ8 := Lib.hid (HZ7.out.on h1); have HR8 := Lib.hid (HR7.out.on h1); clear h1)
  go_upto_region 12 with (go_at_call 14; (with_reducible refine (z_join HZ8.out gpT3 (by decide) 5 9 4 hT3 hj5).mono ?_); rintro e u9 ⟨H9, rfl, h1, h2⟩; have HZ9 := Lib.hid h1; have HR9 := Lib.hid (HR8.out.step h2); clear h1 h2)
  go_upto_region 13 with (go_at_call 16; (with_reducible refine (z_other HZ9.out gpT3 (by decide) 4 3 true rfl).mono ?_); rintro e v ⟨rfl, h1⟩; have HZv := Lib.hid (HZ9.out.on h1); have HRv := Lib.hid (HR9.out.on h1); clear h1)
  obtain ⟨b, o, x, hA, hx, hc⟩ := rowPP (show Rw 2 ppc v A6 [⟨3, 4⟩, ⟨5, 2⟩] from Ow.rw_ (fun _ => rfl) HRv.out.o) 0 (by decide)
  subst hA
  have hx2 : x = ⟨3, 4⟩ := by simp at hx; exact hx.symm
  subst hx2
  obtain ⟨k0, k1⟩ := hc v (Below.refl _ _)
  simp only [Nat.zero_mul, Nat.add_zero] at k0 k1
  clear hc hx
  go_wp2_with (first
    | (refine wpList_eqpp (by kernel_rfl) (.tmp 66) (.tmp 67) _ rfl ⟨3, 4⟩ ⟨3, 4⟩ rfl rfl ?_; rw [HEQ.out])
    | (go_at_call 18; (with_reducible refine (z_was HZv.out gpT3 (by decide) 5 true rfl).mono ?_); rintro e v2 ⟨rfl, h1⟩; have HZw := Lib.hid (HZv.out.on h1); clear h1)
    | (go_at_call 18; (with_reducible refine (z_was HZw.out gpT3 (by decide) 9 false rfl).mono ?_); rintro e v3 ⟨rfl, h1⟩; have HZx := Lib.hid (HZw.out.on h1); clear h1))
  go_ret
  exact ⟨rfl, HZx.out.l⟩
end Go.Proofs.Ytinjldjpncijjaa
