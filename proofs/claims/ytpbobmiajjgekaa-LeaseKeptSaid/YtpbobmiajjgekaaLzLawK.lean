/- LeaseKept: what is released, left, or lapsed, is kept for its tenant as long as the grace is: the walk. (Written by gen_lzkp.py.) -/
import Derived.Test.YtpbobmiajjgekaaLzK
namespace Go.Proofs.Ytpbobmiajjgekaa
set_option linter.unusedVariables false
set_option maxRecDepth 100000
set_option linter.unusedSimpArgs false
open Go.RowKit

set_option maxRecDepth 100000 in
set_option maxHeartbeats 16000000 in
theorem walk_LeaseKept (G T0 wy a B : Nat) (other : Bool) (W : World) (hG : G < 256) (hT0 : T0 < 256) (hwy : wy < 256) (ha : a < 256) (hB : B < 256) :
    Calls Try.prog 6 #[.int .u8 (G : Int), .int .u8 (T0 : Int), .int .u8 (wy : Int), .int .u8 (a : Int), .int .u8 (B : Int), .bool other] W fun e w' => e = .returned (.bool true) ∧ Below W.heap.size W w' := by
  have HHD := Lib.hid (fun u => lzhead_ok u)
  obtain ⟨g, hg⟩ : ∃ g, 1 + G = g := ⟨_, rfl⟩
  obtain ⟨t, ht⟩ : ∃ t, 1 + T0 = t := ⟨_, rfl⟩
  obtain ⟨E, hE⟩ : ∃ E, a % t = E := ⟨_, rfl⟩
  have hEt : E < t := by rw [← hE]; exact Nat.mod_lt _ (by omega)
  have hgt : 1 ≤ g ∧ g ≤ 256 ∧ 1 ≤ t ∧ t ≤ 256 := by omega
  have HGT := Lib.hid (And.intro hgt hEt)
  have HNEW := Lib.hid (fun u (hb : Below W.heap.size W u) => w_lnew (W := W) (u := u) (g := (g : Int)) (most := 1000) hb (tim_nat g hgt.1 (by omega)) (by decide))
  have HCF := Lib.hid (kc_first (g : Int) t hgt.2.2.1 hgt.2.2.2)
  have hw1 : IntKind.i64.wrap (G : Int) = (G : Int) := (iwrap _ G rfl (by omega)).1
  have hw2 : IntKind.i64.wrap (T0 : Int) = (T0 : Int) := (iwrap _ T0 rfl (by omega)).1
  have hw3 : IntKind.i64.wrap (1 + (G : Int)) = (g : Int) := (iwrap _ g (by omega) (by omega)).1
  have hw4 : IntKind.i64.wrap (1 + (T0 : Int)) = (t : Int) := (iwrap _ t (by omega) (by omega)).1
  have hw5 : IntKind.i64.wrap (a : Int) = (a : Int) := (iwrap _ a rfl (by omega)).1
  have hm1 : (a : Int) % (t : Int) = (E : Int) := by rw [← hE]; rfl
  have hti : (0 : Int) < (t : Int) := by omega
  clear hg ht hE
  go_enter Try.func6, Try.ntmps6
  go_upto_region 5 with (first | (go_at_call 10; (with_reducible refine (HHD.out _).mono ?_); rintro e u1 ⟨rfl, hb⟩; have HB1 := Lib.hid hb; clear hb) | (go_at_call 11; (with_reducible refine (HNEW.out _ HB1.out).mono ?_); rintro e u2 ⟨G2, gb, rfl, h1, -, -⟩; have HL2 := Lib.hid h1; clear h1))
  clear hw1 hw2 hw3 hw4
  go_upto_region 8 with (go_at_call 25; (with_reducible refine (w_claim HL2.out ⟨#[97, 110, 110]⟩ ⟨#[119, 101, 98]⟩ 1 0 (t : Int) (by decide) (by decide) (by decide) _ HCF.out).mono ?_); rintro e u3 ⟨G3, rfl, h1, -⟩; have HL3 := Lib.hid h1; clear h1)
  obtain ⟨q4, hq⟩ : ∃ q, u3.heap.size = q := ⟨_, rfl⟩
  obtain ⟨u4, hv⟩ : ∃ v, u3.alloc (.cells #[.string ⟨#[119, 101, 98]⟩, .string ⟨#[97, 110, 110]⟩, .int .i64 1, .int .i64 1, .int .i64 (t : Int), .bool true] 32) = v := ⟨_, rfl⟩
  have HL4 := Lib.hid (show Lw W u4 G3 gb (g : Int) 1000 ⟨[⟨⟨#[119, 101, 98]⟩, ⟨#[97, 110, 110]⟩, 1, 1, (t : Int), true⟩], 2⟩ by rw [← hv]; exact HL3.out.on ((Below.refl _ _).alloc (Nat.le_refl _) _))
  have HX4 := Lib.hid (show Bk u4 q4 32 #[.string ⟨#[119, 101, 98]⟩, .string ⟨#[97, 110, 110]⟩, .int .i64 1, .int .i64 1, .int .i64 (t : Int), .bool true] by rw [← hv, ← hq]; exact Bk.new _ _ _)
  try dsimp only
  rw [hv]
  try rw [hq]
  clear hv hq HCF
  have x3 : u4.cell? ⟨q4, 3, none⟩ = some (.int .i64 1) := HX4.out.cell 3
  go_upto_region 9 with fail
  try rw [hm1]
  clear hm1 hw5
  by_cases h0 : wy % 3 = 0
  · have hr : (wy : Int) % 3 = 0 := by omega
    have HRE := Lib.hid (kc_release (g : Int) HGT.out.2 (show E ≤ 100000 by have := HGT.out; omega))
    clear h0
    go_upto_region 19 with (go_at_call 16; (with_reducible refine (w_release HL4.out ⟨#[97, 110, 110]⟩ ⟨#[119, 101, 98]⟩ 1 (E : Int) (by decide) _ HRE.out).mono ?_); rintro e u5 ⟨rfl, h1, -⟩; have HL5 := Lib.hid h1; clear h1)
    clear hr
    obtain ⟨N, hN⟩ : ∃ N, E + B = N := ⟨_, rfl⟩
    have hw6 : IntKind.i64.wrap (B : Int) = (B : Int) := (iwrap _ B rfl (by omega)).1
    have hgt := HGT.out
    have hw7 : IntKind.i64.wrap ((E : Int) + (B : Int)) = (N : Int) := (iwrap _ N (by omega) (by omega)).1
    obtain ⟨eg, heg⟩ : ∃ eg, E + g = eg := ⟨_, rfl⟩
    have hw8 : IntKind.i64.wrap ((E : Int) + (g : Int)) = (eg : Int) := (iwrap _ eg (by omega) (by omega)).1
    have hN1 : N ≤ 100000 := by omega
    have HHE := Lib.hid (show heL ⟨⟨#[119, 101, 98]⟩, ⟨#[97, 110, 110]⟩, 1, 1, (E : Int) + (g : Int), false⟩ (N : Int) = false from he_off _ _ _ _ _ _)
    have HKP := Lib.hid (show kpL (g : Int) ⟨⟨#[119, 101, 98]⟩, ⟨#[97, 110, 110]⟩, 1, 1, (E : Int) + (g : Int), false⟩ (N : Int) = decide ((N : Int) < (eg : Int)) by rw [kp_off, show ((E : Int) + (g : Int)) = (eg : Int) by omega])
    have HHO := Lib.hid (kc_hold ⟨⟨#[119, 101, 98]⟩, ⟨#[97, 110, 110]⟩, 1, 1, (E : Int) + (g : Int), false⟩ (N : Int) rfl HHE.out)
    have H1 := Lib.hid (And.intro (show (holdL ⟨[⟨⟨#[119, 101, 98]⟩, ⟨#[97, 110, 110]⟩, 1, 1, (E : Int) + (g : Int), false⟩], 2⟩ nWeb (N : Int)).getD zeroLs = ⟨⟨#[]⟩, ⟨#[]⟩, 0, 0, 0, false⟩ by rw [HHO.out]; rfl) (show (holdL ⟨[⟨⟨#[119, 101, 98]⟩, ⟨#[97, 110, 110]⟩, 1, 1, (E : Int) + (g : Int), false⟩], 2⟩ nWeb (N : Int)).isSome = false by rw [HHO.out]; rfl))
    clear hgt hN heg
    cases other with
    | false =>
      obtain ⟨⟨⟨xn, xt, xc, xe, xu, xh⟩, er, b2⟩, hR⟩ : ∃ R, claimL (g : Int) 1000 ⟨[⟨⟨#[119, 101, 98]⟩, ⟨#[97, 110, 110]⟩, 1, 1, (E : Int) + (g : Int), false⟩], 2⟩ ⟨#[97, 110, 110]⟩ ⟨#[119, 101, 98]⟩ 2 (N : Int) 5 = R := ⟨_, rfl⟩
      have her : er = 0 := by
        have := kc_again (g : Int) ⟨⟨#[119, 101, 98]⟩, ⟨#[97, 110, 110]⟩, 1, 1, (E : Int) + (g : Int), false⟩ nAnn N hN1 nm_ann rfl rfl HHE.out
        rw [hR] at this
        dsimp only at this
        rw [this]
        rw [if_neg (by rw [(nmE_iff nAnn nAnn).2 rfl]; simp)]
      subst her
      have HR := Lib.hid hR
      clear hR
      go_upto_region 24 with (go_at_call 27; (with_reducible refine (w_holder HL5.out ⟨#[119, 101, 98]⟩ (N : Int) (by decide) _ _ H1.out.1 H1.out.2).mono ?_); rintro e u7 ⟨rfl, hb⟩; have HL7 := Lib.hid (HL5.out.on (hb.alloc hb.size (.cells #[.string ⟨#[]⟩, .string ⟨#[]⟩, .int .i64 0, .int .i64 0, .int .i64 0, .bool false] 32))); clear hb)
      go_wp2_with (go_at_call 25; (with_reducible refine (w_claim HL7.out ⟨#[97, 110, 110]⟩ ⟨#[119, 101, 98]⟩ 2 (N : Int) 5 (by decide) (by decide) (show (2 : Int) ≤ 1000000 by decide) _ HR.out).mono ?_); rintro e u8 ⟨G8, rfl, h1, -⟩; have HL8 := Lib.hid h1; clear h1)
      all_goals (go_ret; exact ⟨by first | rfl | simp, HL8.out.l.trans (((Below.refl _ _).alloc (Nat.le_refl _) _).mono HL8.out.l.size)⟩)
    | true =>
      by_cases hge : eg ≤ N
      · have hge1 : (N : Int) ≥ (eg : Int) := by omega
        have hge2 : ¬ (N : Int) < (eg : Int) := by omega
        have hge3 : decide ((eg : Int) ≤ (N : Int)) = true := decide_eq_true (by omega)
        obtain ⟨⟨⟨xn, xt, xc, xe, xu, xh⟩, er, b2⟩, hR⟩ : ∃ R, claimL (g : Int) 1000 ⟨[⟨⟨#[119, 101, 98]⟩, ⟨#[97, 110, 110]⟩, 1, 1, (E : Int) + (g : Int), false⟩], 2⟩ ⟨#[98, 111, 98]⟩ ⟨#[119, 101, 98]⟩ 2 (N : Int) 5 = R := ⟨_, rfl⟩
        have her : er = 0 := by
          have := kc_again (g : Int) ⟨⟨#[119, 101, 98]⟩, ⟨#[97, 110, 110]⟩, 1, 1, (E : Int) + (g : Int), false⟩ nBob N hN1 nm_bob rfl rfl HHE.out
          rw [hR] at this
          dsimp only at this
          rw [this]
          rw [HKP.out, decide_eq_false hge2, Bool.and_false, if_neg (by simp)]
        subst her
        have HR := Lib.hid hR
        clear hR
        go_upto_region 24 with (go_at_call 27; (with_reducible refine (w_holder HL5.out ⟨#[119, 101, 98]⟩ (N : Int) (by decide) _ _ H1.out.1 H1.out.2).mono ?_); rintro e u7 ⟨rfl, hb⟩; have HL7 := Lib.hid (HL5.out.on (hb.alloc hb.size (.cells #[.string ⟨#[]⟩, .string ⟨#[]⟩, .int .i64 0, .int .i64 0, .int .i64 0, .bool false] 32))); clear hb)
        go_wp2_with (go_at_call 25; (with_reducible refine (w_claim HL7.out ⟨#[98, 111, 98]⟩ ⟨#[119, 101, 98]⟩ 2 (N : Int) 5 (by decide) (by decide) (show (2 : Int) ≤ 1000000 by decide) _ HR.out).mono ?_); rintro e u8 ⟨G8, rfl, h1, -⟩; have HL8 := Lib.hid h1; clear h1)
        all_goals (go_ret; exact ⟨by first | rfl | simp, HL8.out.l.trans (((Below.refl _ _).alloc (Nat.le_refl _) _).mono HL8.out.l.size)⟩)
      · have hge1 : decide ((N : Int) ≥ (eg : Int)) = false := decide_eq_false (by omega)
        have hge2 : (N : Int) < (eg : Int) := by omega
        have hge3 : decide ((eg : Int) ≤ (N : Int)) = false := decide_eq_false (by omega)
        have hge4 : decide (eg ≤ N) = false := decide_eq_false hge
        obtain ⟨⟨⟨xn, xt, xc, xe, xu, xh⟩, er, b2⟩, hR⟩ : ∃ R, claimL (g : Int) 1000 ⟨[⟨⟨#[119, 101, 98]⟩, ⟨#[97, 110, 110]⟩, 1, 1, (E : Int) + (g : Int), false⟩], 2⟩ ⟨#[98, 111, 98]⟩ ⟨#[119, 101, 98]⟩ 2 (N : Int) 5 = R := ⟨_, rfl⟩
        have her : er = 131 := by
          have := kc_again (g : Int) ⟨⟨#[119, 101, 98]⟩, ⟨#[97, 110, 110]⟩, 1, 1, (E : Int) + (g : Int), false⟩ nBob N hN1 nm_bob rfl rfl HHE.out
          rw [hR] at this
          dsimp only at this
          rw [this]
          rw [HKP.out, decide_eq_true hge2, ab_ne]; rfl
        subst her
        have HR := Lib.hid hR
        clear hR
        go_upto_region 24 with (go_at_call 27; (with_reducible refine (w_holder HL5.out ⟨#[119, 101, 98]⟩ (N : Int) (by decide) _ _ H1.out.1 H1.out.2).mono ?_); rintro e u7 ⟨rfl, hb⟩; have HL7 := Lib.hid (HL5.out.on (hb.alloc hb.size (.cells #[.string ⟨#[]⟩, .string ⟨#[]⟩, .int .i64 0, .int .i64 0, .int .i64 0, .bool false] 32))); clear hb)
        go_wp2_with (go_at_call 25; (with_reducible refine (w_claim HL7.out ⟨#[98, 111, 98]⟩ ⟨#[119, 101, 98]⟩ 2 (N : Int) 5 (by decide) (by decide) (show (2 : Int) ≤ 1000000 by decide) _ HR.out).mono ?_); rintro e u8 ⟨G8, rfl, h1, -⟩; have HL8 := Lib.hid h1; clear h1)
        all_goals (go_ret; exact ⟨by first | rfl | simp, HL8.out.l.trans (((Below.refl _ _).alloc (Nat.le_refl _) _).mono HL8.out.l.size)⟩)
  by_cases h1 : wy % 3 = 1
  · have hr : (wy : Int) % 3 = 1 := by omega
    have HRE := Lib.hid (kc_leave (g : Int) HGT.out.2 (show E ≤ 100000 by have := HGT.out; omega))
    clear h0 h1
    go_upto_region 19 with (go_at_call 21; (with_reducible refine (w_leave HL4.out 1 (E : Int) 1 _ _ (by rw [HRE.out]) (by rw [HRE.out]) rfl).mono ?_); rintro e u5 ⟨A5, c5, rfl, -, -, h1, -⟩; have HL5 := Lib.hid h1; clear h1)
    clear hr
    obtain ⟨N, hN⟩ : ∃ N, E + B = N := ⟨_, rfl⟩
    have hw6 : IntKind.i64.wrap (B : Int) = (B : Int) := (iwrap _ B rfl (by omega)).1
    have hgt := HGT.out
    have hw7 : IntKind.i64.wrap ((E : Int) + (B : Int)) = (N : Int) := (iwrap _ N (by omega) (by omega)).1
    obtain ⟨eg, heg⟩ : ∃ eg, E + g = eg := ⟨_, rfl⟩
    have hw8 : IntKind.i64.wrap ((E : Int) + (g : Int)) = (eg : Int) := (iwrap _ eg (by omega) (by omega)).1
    have hN1 : N ≤ 100000 := by omega
    have HHE := Lib.hid (show heL ⟨⟨#[119, 101, 98]⟩, ⟨#[97, 110, 110]⟩, 1, 1, (E : Int) + (g : Int), false⟩ (N : Int) = false from he_off _ _ _ _ _ _)
    have HKP := Lib.hid (show kpL (g : Int) ⟨⟨#[119, 101, 98]⟩, ⟨#[97, 110, 110]⟩, 1, 1, (E : Int) + (g : Int), false⟩ (N : Int) = decide ((N : Int) < (eg : Int)) by rw [kp_off, show ((E : Int) + (g : Int)) = (eg : Int) by omega])
    have HHO := Lib.hid (kc_hold ⟨⟨#[119, 101, 98]⟩, ⟨#[97, 110, 110]⟩, 1, 1, (E : Int) + (g : Int), false⟩ (N : Int) rfl HHE.out)
    have H1 := Lib.hid (And.intro (show (holdL ⟨[⟨⟨#[119, 101, 98]⟩, ⟨#[97, 110, 110]⟩, 1, 1, (E : Int) + (g : Int), false⟩], 2⟩ nWeb (N : Int)).getD zeroLs = ⟨⟨#[]⟩, ⟨#[]⟩, 0, 0, 0, false⟩ by rw [HHO.out]; rfl) (show (holdL ⟨[⟨⟨#[119, 101, 98]⟩, ⟨#[97, 110, 110]⟩, 1, 1, (E : Int) + (g : Int), false⟩], 2⟩ nWeb (N : Int)).isSome = false by rw [HHO.out]; rfl))
    clear hgt hN heg
    cases other with
    | false =>
      obtain ⟨⟨⟨xn, xt, xc, xe, xu, xh⟩, er, b2⟩, hR⟩ : ∃ R, claimL (g : Int) 1000 ⟨[⟨⟨#[119, 101, 98]⟩, ⟨#[97, 110, 110]⟩, 1, 1, (E : Int) + (g : Int), false⟩], 2⟩ ⟨#[97, 110, 110]⟩ ⟨#[119, 101, 98]⟩ 2 (N : Int) 5 = R := ⟨_, rfl⟩
      have her : er = 0 := by
        have := kc_again (g : Int) ⟨⟨#[119, 101, 98]⟩, ⟨#[97, 110, 110]⟩, 1, 1, (E : Int) + (g : Int), false⟩ nAnn N hN1 nm_ann rfl rfl HHE.out
        rw [hR] at this
        dsimp only at this
        rw [this]
        rw [if_neg (by rw [(nmE_iff nAnn nAnn).2 rfl]; simp)]
      subst her
      have HR := Lib.hid hR
      clear hR
      go_upto_region 24 with (go_at_call 27; (with_reducible refine (w_holder HL5.out ⟨#[119, 101, 98]⟩ (N : Int) (by decide) _ _ H1.out.1 H1.out.2).mono ?_); rintro e u7 ⟨rfl, hb⟩; have HL7 := Lib.hid (HL5.out.on (hb.alloc hb.size (.cells #[.string ⟨#[]⟩, .string ⟨#[]⟩, .int .i64 0, .int .i64 0, .int .i64 0, .bool false] 32))); clear hb)
      go_wp2_with (go_at_call 25; (with_reducible refine (w_claim HL7.out ⟨#[97, 110, 110]⟩ ⟨#[119, 101, 98]⟩ 2 (N : Int) 5 (by decide) (by decide) (show (2 : Int) ≤ 1000000 by decide) _ HR.out).mono ?_); rintro e u8 ⟨G8, rfl, h1, -⟩; have HL8 := Lib.hid h1; clear h1)
      all_goals (go_ret; exact ⟨by first | rfl | simp, HL8.out.l.trans (((Below.refl _ _).alloc (Nat.le_refl _) _).mono HL8.out.l.size)⟩)
    | true =>
      by_cases hge : eg ≤ N
      · have hge1 : (N : Int) ≥ (eg : Int) := by omega
        have hge2 : ¬ (N : Int) < (eg : Int) := by omega
        have hge3 : decide ((eg : Int) ≤ (N : Int)) = true := decide_eq_true (by omega)
        obtain ⟨⟨⟨xn, xt, xc, xe, xu, xh⟩, er, b2⟩, hR⟩ : ∃ R, claimL (g : Int) 1000 ⟨[⟨⟨#[119, 101, 98]⟩, ⟨#[97, 110, 110]⟩, 1, 1, (E : Int) + (g : Int), false⟩], 2⟩ ⟨#[98, 111, 98]⟩ ⟨#[119, 101, 98]⟩ 2 (N : Int) 5 = R := ⟨_, rfl⟩
        have her : er = 0 := by
          have := kc_again (g : Int) ⟨⟨#[119, 101, 98]⟩, ⟨#[97, 110, 110]⟩, 1, 1, (E : Int) + (g : Int), false⟩ nBob N hN1 nm_bob rfl rfl HHE.out
          rw [hR] at this
          dsimp only at this
          rw [this]
          rw [HKP.out, decide_eq_false hge2, Bool.and_false, if_neg (by simp)]
        subst her
        have HR := Lib.hid hR
        clear hR
        go_upto_region 24 with (go_at_call 27; (with_reducible refine (w_holder HL5.out ⟨#[119, 101, 98]⟩ (N : Int) (by decide) _ _ H1.out.1 H1.out.2).mono ?_); rintro e u7 ⟨rfl, hb⟩; have HL7 := Lib.hid (HL5.out.on (hb.alloc hb.size (.cells #[.string ⟨#[]⟩, .string ⟨#[]⟩, .int .i64 0, .int .i64 0, .int .i64 0, .bool false] 32))); clear hb)
        go_wp2_with (go_at_call 25; (with_reducible refine (w_claim HL7.out ⟨#[98, 111, 98]⟩ ⟨#[119, 101, 98]⟩ 2 (N : Int) 5 (by decide) (by decide) (show (2 : Int) ≤ 1000000 by decide) _ HR.out).mono ?_); rintro e u8 ⟨G8, rfl, h1, -⟩; have HL8 := Lib.hid h1; clear h1)
        all_goals (go_ret; exact ⟨by first | rfl | simp, HL8.out.l.trans (((Below.refl _ _).alloc (Nat.le_refl _) _).mono HL8.out.l.size)⟩)
      · have hge1 : decide ((N : Int) ≥ (eg : Int)) = false := decide_eq_false (by omega)
        have hge2 : (N : Int) < (eg : Int) := by omega
        have hge3 : decide ((eg : Int) ≤ (N : Int)) = false := decide_eq_false (by omega)
        have hge4 : decide (eg ≤ N) = false := decide_eq_false hge
        obtain ⟨⟨⟨xn, xt, xc, xe, xu, xh⟩, er, b2⟩, hR⟩ : ∃ R, claimL (g : Int) 1000 ⟨[⟨⟨#[119, 101, 98]⟩, ⟨#[97, 110, 110]⟩, 1, 1, (E : Int) + (g : Int), false⟩], 2⟩ ⟨#[98, 111, 98]⟩ ⟨#[119, 101, 98]⟩ 2 (N : Int) 5 = R := ⟨_, rfl⟩
        have her : er = 131 := by
          have := kc_again (g : Int) ⟨⟨#[119, 101, 98]⟩, ⟨#[97, 110, 110]⟩, 1, 1, (E : Int) + (g : Int), false⟩ nBob N hN1 nm_bob rfl rfl HHE.out
          rw [hR] at this
          dsimp only at this
          rw [this]
          rw [HKP.out, decide_eq_true hge2, ab_ne]; rfl
        subst her
        have HR := Lib.hid hR
        clear hR
        go_upto_region 24 with (go_at_call 27; (with_reducible refine (w_holder HL5.out ⟨#[119, 101, 98]⟩ (N : Int) (by decide) _ _ H1.out.1 H1.out.2).mono ?_); rintro e u7 ⟨rfl, hb⟩; have HL7 := Lib.hid (HL5.out.on (hb.alloc hb.size (.cells #[.string ⟨#[]⟩, .string ⟨#[]⟩, .int .i64 0, .int .i64 0, .int .i64 0, .bool false] 32))); clear hb)
        go_wp2_with (go_at_call 25; (with_reducible refine (w_claim HL7.out ⟨#[98, 111, 98]⟩ ⟨#[119, 101, 98]⟩ 2 (N : Int) 5 (by decide) (by decide) (show (2 : Int) ≤ 1000000 by decide) _ HR.out).mono ?_); rintro e u8 ⟨G8, rfl, h1, -⟩; have HL8 := Lib.hid h1; clear h1)
        all_goals (go_ret; exact ⟨by first | rfl | simp, HL8.out.l.trans (((Below.refl _ _).alloc (Nat.le_refl _) _).mono HL8.out.l.size)⟩)
  have hr : (wy : Int) % 3 = 2 := by omega
  clear h0 h1
  by_cases h2 : a % 2 = 0
  · have hr2 : (a : Int) % 2 = 0 := by omega
    have HRE := Lib.hid (kc_lapse (g : Int) (by have := HGT.out; omega) (show t ≤ 100000 by have := HGT.out; omega))
    clear h2
    go_upto_region 19 with (go_at_call 23; (with_reducible refine (w_lapse HL4.out (t : Int) 1 _ _ (by rw [HRE.out]) (by rw [HRE.out]) rfl).mono ?_); rintro e u5 ⟨A5, c5, rfl, -, -, h1, -⟩; have HL5 := Lib.hid h1; clear h1)
    clear hr hr2
    obtain ⟨N, hN⟩ : ∃ N, t + B = N := ⟨_, rfl⟩
    have hw6 : IntKind.i64.wrap (B : Int) = (B : Int) := (iwrap _ B rfl (by omega)).1
    have hgt := HGT.out
    have hw7 : IntKind.i64.wrap ((t : Int) + (B : Int)) = (N : Int) := (iwrap _ N (by omega) (by omega)).1
    obtain ⟨eg, heg⟩ : ∃ eg, t + g = eg := ⟨_, rfl⟩
    have hw8 : IntKind.i64.wrap ((t : Int) + (g : Int)) = (eg : Int) := (iwrap _ eg (by omega) (by omega)).1
    have hN1 : N ≤ 100000 := by omega
    have HHE := Lib.hid (show heL ⟨⟨#[119, 101, 98]⟩, ⟨#[97, 110, 110]⟩, 1, 1, (t : Int) + (g : Int), false⟩ (N : Int) = false from he_off _ _ _ _ _ _)
    have HKP := Lib.hid (show kpL (g : Int) ⟨⟨#[119, 101, 98]⟩, ⟨#[97, 110, 110]⟩, 1, 1, (t : Int) + (g : Int), false⟩ (N : Int) = decide ((N : Int) < (eg : Int)) by rw [kp_off, show ((t : Int) + (g : Int)) = (eg : Int) by omega])
    have HHO := Lib.hid (kc_hold ⟨⟨#[119, 101, 98]⟩, ⟨#[97, 110, 110]⟩, 1, 1, (t : Int) + (g : Int), false⟩ (N : Int) rfl HHE.out)
    have H1 := Lib.hid (And.intro (show (holdL ⟨[⟨⟨#[119, 101, 98]⟩, ⟨#[97, 110, 110]⟩, 1, 1, (t : Int) + (g : Int), false⟩], 2⟩ nWeb (N : Int)).getD zeroLs = ⟨⟨#[]⟩, ⟨#[]⟩, 0, 0, 0, false⟩ by rw [HHO.out]; rfl) (show (holdL ⟨[⟨⟨#[119, 101, 98]⟩, ⟨#[97, 110, 110]⟩, 1, 1, (t : Int) + (g : Int), false⟩], 2⟩ nWeb (N : Int)).isSome = false by rw [HHO.out]; rfl))
    clear hgt hN heg
    cases other with
    | false =>
      obtain ⟨⟨⟨xn, xt, xc, xe, xu, xh⟩, er, b2⟩, hR⟩ : ∃ R, claimL (g : Int) 1000 ⟨[⟨⟨#[119, 101, 98]⟩, ⟨#[97, 110, 110]⟩, 1, 1, (t : Int) + (g : Int), false⟩], 2⟩ ⟨#[97, 110, 110]⟩ ⟨#[119, 101, 98]⟩ 2 (N : Int) 5 = R := ⟨_, rfl⟩
      have her : er = 0 := by
        have := kc_again (g : Int) ⟨⟨#[119, 101, 98]⟩, ⟨#[97, 110, 110]⟩, 1, 1, (t : Int) + (g : Int), false⟩ nAnn N hN1 nm_ann rfl rfl HHE.out
        rw [hR] at this
        dsimp only at this
        rw [this]
        rw [if_neg (by rw [(nmE_iff nAnn nAnn).2 rfl]; simp)]
      subst her
      have HR := Lib.hid hR
      clear hR
      go_upto_region 24 with (go_at_call 27; (with_reducible refine (w_holder HL5.out ⟨#[119, 101, 98]⟩ (N : Int) (by decide) _ _ H1.out.1 H1.out.2).mono ?_); rintro e u7 ⟨rfl, hb⟩; have HL7 := Lib.hid (HL5.out.on (hb.alloc hb.size (.cells #[.string ⟨#[]⟩, .string ⟨#[]⟩, .int .i64 0, .int .i64 0, .int .i64 0, .bool false] 32))); clear hb)
      go_wp2_with (go_at_call 25; (with_reducible refine (w_claim HL7.out ⟨#[97, 110, 110]⟩ ⟨#[119, 101, 98]⟩ 2 (N : Int) 5 (by decide) (by decide) (show (2 : Int) ≤ 1000000 by decide) _ HR.out).mono ?_); rintro e u8 ⟨G8, rfl, h1, -⟩; have HL8 := Lib.hid h1; clear h1)
      all_goals (go_ret; exact ⟨by first | rfl | simp, HL8.out.l.trans (((Below.refl _ _).alloc (Nat.le_refl _) _).mono HL8.out.l.size)⟩)
    | true =>
      by_cases hge : eg ≤ N
      · have hge1 : (N : Int) ≥ (eg : Int) := by omega
        have hge2 : ¬ (N : Int) < (eg : Int) := by omega
        have hge3 : decide ((eg : Int) ≤ (N : Int)) = true := decide_eq_true (by omega)
        obtain ⟨⟨⟨xn, xt, xc, xe, xu, xh⟩, er, b2⟩, hR⟩ : ∃ R, claimL (g : Int) 1000 ⟨[⟨⟨#[119, 101, 98]⟩, ⟨#[97, 110, 110]⟩, 1, 1, (t : Int) + (g : Int), false⟩], 2⟩ ⟨#[98, 111, 98]⟩ ⟨#[119, 101, 98]⟩ 2 (N : Int) 5 = R := ⟨_, rfl⟩
        have her : er = 0 := by
          have := kc_again (g : Int) ⟨⟨#[119, 101, 98]⟩, ⟨#[97, 110, 110]⟩, 1, 1, (t : Int) + (g : Int), false⟩ nBob N hN1 nm_bob rfl rfl HHE.out
          rw [hR] at this
          dsimp only at this
          rw [this]
          rw [HKP.out, decide_eq_false hge2, Bool.and_false, if_neg (by simp)]
        subst her
        have HR := Lib.hid hR
        clear hR
        go_upto_region 24 with (go_at_call 27; (with_reducible refine (w_holder HL5.out ⟨#[119, 101, 98]⟩ (N : Int) (by decide) _ _ H1.out.1 H1.out.2).mono ?_); rintro e u7 ⟨rfl, hb⟩; have HL7 := Lib.hid (HL5.out.on (hb.alloc hb.size (.cells #[.string ⟨#[]⟩, .string ⟨#[]⟩, .int .i64 0, .int .i64 0, .int .i64 0, .bool false] 32))); clear hb)
        go_wp2_with (go_at_call 25; (with_reducible refine (w_claim HL7.out ⟨#[98, 111, 98]⟩ ⟨#[119, 101, 98]⟩ 2 (N : Int) 5 (by decide) (by decide) (show (2 : Int) ≤ 1000000 by decide) _ HR.out).mono ?_); rintro e u8 ⟨G8, rfl, h1, -⟩; have HL8 := Lib.hid h1; clear h1)
        all_goals (go_ret; exact ⟨by first | rfl | simp, HL8.out.l.trans (((Below.refl _ _).alloc (Nat.le_refl _) _).mono HL8.out.l.size)⟩)
      · have hge1 : decide ((N : Int) ≥ (eg : Int)) = false := decide_eq_false (by omega)
        have hge2 : (N : Int) < (eg : Int) := by omega
        have hge3 : decide ((eg : Int) ≤ (N : Int)) = false := decide_eq_false (by omega)
        have hge4 : decide (eg ≤ N) = false := decide_eq_false hge
        obtain ⟨⟨⟨xn, xt, xc, xe, xu, xh⟩, er, b2⟩, hR⟩ : ∃ R, claimL (g : Int) 1000 ⟨[⟨⟨#[119, 101, 98]⟩, ⟨#[97, 110, 110]⟩, 1, 1, (t : Int) + (g : Int), false⟩], 2⟩ ⟨#[98, 111, 98]⟩ ⟨#[119, 101, 98]⟩ 2 (N : Int) 5 = R := ⟨_, rfl⟩
        have her : er = 131 := by
          have := kc_again (g : Int) ⟨⟨#[119, 101, 98]⟩, ⟨#[97, 110, 110]⟩, 1, 1, (t : Int) + (g : Int), false⟩ nBob N hN1 nm_bob rfl rfl HHE.out
          rw [hR] at this
          dsimp only at this
          rw [this]
          rw [HKP.out, decide_eq_true hge2, ab_ne]; rfl
        subst her
        have HR := Lib.hid hR
        clear hR
        go_upto_region 24 with (go_at_call 27; (with_reducible refine (w_holder HL5.out ⟨#[119, 101, 98]⟩ (N : Int) (by decide) _ _ H1.out.1 H1.out.2).mono ?_); rintro e u7 ⟨rfl, hb⟩; have HL7 := Lib.hid (HL5.out.on (hb.alloc hb.size (.cells #[.string ⟨#[]⟩, .string ⟨#[]⟩, .int .i64 0, .int .i64 0, .int .i64 0, .bool false] 32))); clear hb)
        go_wp2_with (go_at_call 25; (with_reducible refine (w_claim HL7.out ⟨#[98, 111, 98]⟩ ⟨#[119, 101, 98]⟩ 2 (N : Int) 5 (by decide) (by decide) (show (2 : Int) ≤ 1000000 by decide) _ HR.out).mono ?_); rintro e u8 ⟨G8, rfl, h1, -⟩; have HL8 := Lib.hid h1; clear h1)
        all_goals (go_ret; exact ⟨by first | rfl | simp, HL8.out.l.trans (((Below.refl _ _).alloc (Nat.le_refl _) _).mono HL8.out.l.size)⟩)
  · have hr2 : (a : Int) % 2 = 1 := by omega
    clear h2
    go_upto_region 19 with fail
    clear hr hr2
    obtain ⟨N, hN⟩ : ∃ N, t + B = N := ⟨_, rfl⟩
    have hw6 : IntKind.i64.wrap (B : Int) = (B : Int) := (iwrap _ B rfl (by omega)).1
    have hgt := HGT.out
    have hw7 : IntKind.i64.wrap ((t : Int) + (B : Int)) = (N : Int) := (iwrap _ N (by omega) (by omega)).1
    obtain ⟨eg, heg⟩ : ∃ eg, t + g = eg := ⟨_, rfl⟩
    have hw8 : IntKind.i64.wrap ((t : Int) + (g : Int)) = (eg : Int) := (iwrap _ eg (by omega) (by omega)).1
    have hN1 : N ≤ 100000 := by omega
    have HHE := Lib.hid (show heL ⟨⟨#[119, 101, 98]⟩, ⟨#[97, 110, 110]⟩, 1, 1, (t : Int), true⟩ (N : Int) = false from he_on _ _ _ _ _ _ (by omega))
    have HKP := Lib.hid (show kpL (g : Int) ⟨⟨#[119, 101, 98]⟩, ⟨#[97, 110, 110]⟩, 1, 1, (t : Int), true⟩ (N : Int) = decide ((N : Int) < (eg : Int)) by rw [kp_on _ _ _ _ _ _ _ (by omega), show ((t : Int) + (g : Int)) = (eg : Int) by omega])
    have HHO := Lib.hid (kc_hold ⟨⟨#[119, 101, 98]⟩, ⟨#[97, 110, 110]⟩, 1, 1, (t : Int), true⟩ (N : Int) rfl HHE.out)
    have H1 := Lib.hid (And.intro (show (holdL ⟨[⟨⟨#[119, 101, 98]⟩, ⟨#[97, 110, 110]⟩, 1, 1, (t : Int), true⟩], 2⟩ nWeb (N : Int)).getD zeroLs = ⟨⟨#[]⟩, ⟨#[]⟩, 0, 0, 0, false⟩ by rw [HHO.out]; rfl) (show (holdL ⟨[⟨⟨#[119, 101, 98]⟩, ⟨#[97, 110, 110]⟩, 1, 1, (t : Int), true⟩], 2⟩ nWeb (N : Int)).isSome = false by rw [HHO.out]; rfl))
    clear hgt hN heg
    cases other with
    | false =>
      obtain ⟨⟨⟨xn, xt, xc, xe, xu, xh⟩, er, b2⟩, hR⟩ : ∃ R, claimL (g : Int) 1000 ⟨[⟨⟨#[119, 101, 98]⟩, ⟨#[97, 110, 110]⟩, 1, 1, (t : Int), true⟩], 2⟩ ⟨#[97, 110, 110]⟩ ⟨#[119, 101, 98]⟩ 2 (N : Int) 5 = R := ⟨_, rfl⟩
      have her : er = 0 := by
        have := kc_again (g : Int) ⟨⟨#[119, 101, 98]⟩, ⟨#[97, 110, 110]⟩, 1, 1, (t : Int), true⟩ nAnn N hN1 nm_ann rfl rfl HHE.out
        rw [hR] at this
        dsimp only at this
        rw [this]
        rw [if_neg (by rw [(nmE_iff nAnn nAnn).2 rfl]; simp)]
      subst her
      have HR := Lib.hid hR
      clear hR
      go_upto_region 24 with (go_at_call 27; (with_reducible refine (w_holder HL4.out ⟨#[119, 101, 98]⟩ (N : Int) (by decide) _ _ H1.out.1 H1.out.2).mono ?_); rintro e u7 ⟨rfl, hb⟩; have HL7 := Lib.hid (HL4.out.on (hb.alloc hb.size (.cells #[.string ⟨#[]⟩, .string ⟨#[]⟩, .int .i64 0, .int .i64 0, .int .i64 0, .bool false] 32))); clear hb)
      go_wp2_with (go_at_call 25; (with_reducible refine (w_claim HL7.out ⟨#[97, 110, 110]⟩ ⟨#[119, 101, 98]⟩ 2 (N : Int) 5 (by decide) (by decide) (show (2 : Int) ≤ 1000000 by decide) _ HR.out).mono ?_); rintro e u8 ⟨G8, rfl, h1, -⟩; have HL8 := Lib.hid h1; clear h1)
      all_goals (go_ret; exact ⟨by first | rfl | simp, HL8.out.l.trans (((Below.refl _ _).alloc (Nat.le_refl _) _).mono HL8.out.l.size)⟩)
    | true =>
      by_cases hge : eg ≤ N
      · have hge1 : (N : Int) ≥ (eg : Int) := by omega
        have hge2 : ¬ (N : Int) < (eg : Int) := by omega
        have hge3 : decide ((eg : Int) ≤ (N : Int)) = true := decide_eq_true (by omega)
        obtain ⟨⟨⟨xn, xt, xc, xe, xu, xh⟩, er, b2⟩, hR⟩ : ∃ R, claimL (g : Int) 1000 ⟨[⟨⟨#[119, 101, 98]⟩, ⟨#[97, 110, 110]⟩, 1, 1, (t : Int), true⟩], 2⟩ ⟨#[98, 111, 98]⟩ ⟨#[119, 101, 98]⟩ 2 (N : Int) 5 = R := ⟨_, rfl⟩
        have her : er = 0 := by
          have := kc_again (g : Int) ⟨⟨#[119, 101, 98]⟩, ⟨#[97, 110, 110]⟩, 1, 1, (t : Int), true⟩ nBob N hN1 nm_bob rfl rfl HHE.out
          rw [hR] at this
          dsimp only at this
          rw [this]
          rw [HKP.out, decide_eq_false hge2, Bool.and_false, if_neg (by simp)]
        subst her
        have HR := Lib.hid hR
        clear hR
        go_upto_region 24 with (go_at_call 27; (with_reducible refine (w_holder HL4.out ⟨#[119, 101, 98]⟩ (N : Int) (by decide) _ _ H1.out.1 H1.out.2).mono ?_); rintro e u7 ⟨rfl, hb⟩; have HL7 := Lib.hid (HL4.out.on (hb.alloc hb.size (.cells #[.string ⟨#[]⟩, .string ⟨#[]⟩, .int .i64 0, .int .i64 0, .int .i64 0, .bool false] 32))); clear hb)
        go_wp2_with (go_at_call 25; (with_reducible refine (w_claim HL7.out ⟨#[98, 111, 98]⟩ ⟨#[119, 101, 98]⟩ 2 (N : Int) 5 (by decide) (by decide) (show (2 : Int) ≤ 1000000 by decide) _ HR.out).mono ?_); rintro e u8 ⟨G8, rfl, h1, -⟩; have HL8 := Lib.hid h1; clear h1)
        all_goals (go_ret; exact ⟨by first | rfl | simp, HL8.out.l.trans (((Below.refl _ _).alloc (Nat.le_refl _) _).mono HL8.out.l.size)⟩)
      · have hge1 : decide ((N : Int) ≥ (eg : Int)) = false := decide_eq_false (by omega)
        have hge2 : (N : Int) < (eg : Int) := by omega
        have hge3 : decide ((eg : Int) ≤ (N : Int)) = false := decide_eq_false (by omega)
        have hge4 : decide (eg ≤ N) = false := decide_eq_false hge
        obtain ⟨⟨⟨xn, xt, xc, xe, xu, xh⟩, er, b2⟩, hR⟩ : ∃ R, claimL (g : Int) 1000 ⟨[⟨⟨#[119, 101, 98]⟩, ⟨#[97, 110, 110]⟩, 1, 1, (t : Int), true⟩], 2⟩ ⟨#[98, 111, 98]⟩ ⟨#[119, 101, 98]⟩ 2 (N : Int) 5 = R := ⟨_, rfl⟩
        have her : er = 131 := by
          have := kc_again (g : Int) ⟨⟨#[119, 101, 98]⟩, ⟨#[97, 110, 110]⟩, 1, 1, (t : Int), true⟩ nBob N hN1 nm_bob rfl rfl HHE.out
          rw [hR] at this
          dsimp only at this
          rw [this]
          rw [HKP.out, decide_eq_true hge2, ab_ne]; rfl
        subst her
        have HR := Lib.hid hR
        clear hR
        go_upto_region 24 with (go_at_call 27; (with_reducible refine (w_holder HL4.out ⟨#[119, 101, 98]⟩ (N : Int) (by decide) _ _ H1.out.1 H1.out.2).mono ?_); rintro e u7 ⟨rfl, hb⟩; have HL7 := Lib.hid (HL4.out.on (hb.alloc hb.size (.cells #[.string ⟨#[]⟩, .string ⟨#[]⟩, .int .i64 0, .int .i64 0, .int .i64 0, .bool false] 32))); clear hb)
        go_wp2_with (go_at_call 25; (with_reducible refine (w_claim HL7.out ⟨#[98, 111, 98]⟩ ⟨#[119, 101, 98]⟩ 2 (N : Int) 5 (by decide) (by decide) (show (2 : Int) ≤ 1000000 by decide) _ HR.out).mono ?_); rintro e u8 ⟨G8, rfl, h1, -⟩; have HL8 := Lib.hid h1; clear h1)
        all_goals (go_ret; exact ⟨by first | rfl | simp, HL8.out.l.trans (((Below.refl _ _).alloc (Nat.le_refl _) _).mono HL8.out.l.size)⟩)
end Go.Proofs.Ytpbobmiajjgekaa
