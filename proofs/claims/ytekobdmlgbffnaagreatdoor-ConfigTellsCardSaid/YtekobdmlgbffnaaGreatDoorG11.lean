/- RefDec, SRef3, SRef5s, SRef6, CzA0: texts of this seat, one behind the other. -/
import Derived.Test.YtekobdmlgbffnaaGreatDoorG4
import Derived.Test.YtekobdmlgbffnaaGreatDoorRows
import Derived.Test.YtekobdmlgbffnaaGreatDoorG2
import Derived.Test.YtekobdmlgbffnaaGreatDoorG10
import Derived.Deep.Cut
import Derived.BigGuard
import Derived.Test.YtekobdmlgbffnaaGreatDoorG9
/- The document's answers for numbers: Decimal: its contract. -/
namespace Go.Proofs.YtekobdmlgbffnaaGreatDoor
set_option linter.unusedVariables false
set_option maxRecDepth 100000
set_option linter.unusedSimpArgs false
open Go.RowKit

/-- The decimals of a number; none of 0. -/
def mk10 (r : Nat) : List UInt8 := if r = 0 then [] else decB r
theorem decB_mk (n : Nat) : decB n = mk10 (n / 10) ++ [UInt8.ofNat (n % 10 + 48)] := by
  unfold mk10 decB
  by_cases h : n < 10
  · rw [dg_small h, Nat.div_eq_of_lt h, Nat.mod_eq_of_lt h]; rfl
  · have : n / 10 ≠ 0 := by have := Nat.div_pos (by omega : 10 ≤ n) (by omega); omega
    rw [dg_big (by omega) h, if_neg this, List.map_append]; rfl

set_option maxRecDepth 100000 in
set_option maxHeartbeats 1000000 in
theorem rdec_ok (n : Nat) (w : World) (h1 : n ≤ 1099511627776) :
    Calls Tryz.prog 96 #[.int .i64 n] w fun e w' => e = .returned (.string (bs (decB n))) ∧ Below w.heap.size w w' := by
  have hm := Nat.mod_lt n (by omega : 10 > 0)
  obtain ⟨R, hR⟩ : ∃ R, R = decB n := ⟨_, rfl⟩
  rw [← hR]
  have HR := Lib.hid (hR.trans (decB_mk n))
  have hlen : R.length ≤ 140737488355328 := by rw [hR]; exact decB_len n h1
  clear hR
  obtain ⟨S1, hS1⟩ : ∃ S, S = bs [UInt8.ofNat (n % 10 + 48)] := ⟨_, rfl⟩
  have hs1 : (convert 98 9 (.slice (some ⟨w.heap.size, 0, none⟩) 1 1)).run Tryz.prog (w.alloc (.cells #[.int .u8 (48 + (n : Int) % 10)] 5)) = .ok (.string S1) (w.alloc (.cells #[.int .u8 (48 + (n : Int) % 10)] 5)) := by
    rw [hS1]
    exact str_one (wx := w) (c := UInt8.ofNat (n % 10 + 48)) (v := 48 + (n : Int) % 10) (by rw [u8_ofNat _ (by omega)]; omega)
  have HS1 := Lib.hid hS1
  clear hS1
  go_enter Tryz.func96, Tryz.ntmps96
  go_wp2_with fail
  clear hs1
  go_loopw [0, 3] (fun v0 v3 wr => ∃ (r : Nat) (t : List UInt8) (S : ByteArray), v0 = .int .i64 r ∧ r ≤ 1099511627776 ∧ v3 = .string S ∧ Hid (S = bs t) ∧ Hid (R = mk10 r ++ t) ∧ Below w.heap.size w wr) (fun v0 _ _ => (intOf v0).toNat)
  case atStart => exact ⟨n / 10, [UInt8.ofNat (n % 10 + 48)], S1, by go_num, Nat.le_trans (Nat.div_le_self _ _) h1, rfl, HS1, HR, by go_grown⟩
  case round =>
    obtain ⟨r, t, S, rfl, hr, rfl, HS, HE, hbel⟩ := hrel
    by_cases hz : 0 < r
    · have hm2 := Nat.mod_lt r (by omega : 10 > 0)
      obtain ⟨S2, hS2⟩ : ∃ S, S = bs [UInt8.ofNat (r % 10 + 48)] := ⟨_, rfl⟩
      have hs2 : (convert 98 9 (.slice (some ⟨wr.heap.size, 0, none⟩) 1 1)).run Tryz.prog (wr.alloc (.cells #[.int .u8 (48 + (r : Int) % 10)] 5)) = .ok (.string S2) (wr.alloc (.cells #[.int .u8 (48 + (r : Int) % 10)] 5)) := by
        rw [hS2]
        exact str_one (wx := wr) (c := UInt8.ofNat (r % 10 + 48)) (v := 48 + (r : Int) % 10) (by rw [u8_ofNat _ (by omega)]; omega)
      have hE2 : R = mk10 (r / 10) ++ (UInt8.ofNat (r % 10 + 48) :: t) := by rw [HE.out, mk10, if_neg (by omega), decB_mk r, List.append_assoc]; rfl
      have z1 : S2.size ≤ 1 := by rw [hS2, bs_size]; simp
      have z2 : S.size ≤ 140737488355328 := by
        have h3 := congrArg List.length hE2
        rw [List.length_append, List.length_cons] at h3
        rw [HS.out, bs_size]; omega
      have HE2 := Lib.hid hE2
      have HS2 := Lib.hid hS2
      clear hE2 hS2
      go_wp2
      go_roundw
      case rel =>
        refine ⟨r / 10, UInt8.ofNat (r % 10 + 48) :: t, _, by go_num, Nat.le_trans (Nat.div_le_self _ _) hr, rfl, Lib.hid ?_, HE2, hbel.alloc hbel.size _⟩
        rw [HS.out, HS2.out, bs_append]; rfl
      case measure => simp [intOf]; omega
    · have hr0 : r = 0 := by omega
      have HRt := Lib.hid (show R = t by rw [HE.out, hr0]; rfl)
      clear hr0
      go_wp2
      go_ret
      exact ⟨by rw [HRt.out, HS.out]; rfl, hbel⟩

end Go.Proofs.YtekobdmlgbffnaaGreatDoor

/- The document's own: Dots: its contract. (Written by gen_sref.py.) -/
namespace Go.Proofs.YtekobdmlgbffnaaGreatDoor
set_option linter.unusedVariables false
set_option maxRecDepth 100000
set_option linter.unusedSimpArgs false
open Go.RowKit

def preD (a k : Nat) : List UInt8 := (List.range k).flatMap fun j => decB (qB a j) ++ (if j < 3 then [46] else [])
theorem preD_succ (a k : Nat) : preD a (k + 1) = preD a k ++ (decB (qB a k) ++ (if k < 3 then [46] else [])) := by
  unfold preD
  rw [List.range_succ, List.flatMap_append]
  simp
theorem preD_all (a : Nat) (ha : a < 4294967296) : preD a 4 = dotsB a := by
  rw [dotsB_q a ha]
  simp [preD, List.range, List.range.loop, joinL]
def ik : Nat → Int
  | 0 => 3
  | 1 => 2
  | 2 => 1
  | 3 => 0
  | _ => -1

set_option maxHeartbeats 2000000 in
theorem rdots_ok (a : Nat) (w : World) (ha : a < 4294967296) :
    Calls Tryz.prog 97 #[.int .u32 a] w fun e w' => e = .returned (.string (bs (dotsB a))) ∧ Below w.heap.size w w' := by
  obtain ⟨R, hR⟩ : ∃ R, bs (preD a 4) = R := ⟨_, rfl⟩
  rw [← preD_all a ha, hR]
  have HR := Lib.hid hR
  clear hR
  have HD0 := Lib.hid (show ∀ u, Calls Tryz.prog 96 #[.int .i64 ((a : Int) / 16777216 % 256)] u fun e w' => e = .returned (.string (bs (decB (qB a 0)))) ∧ Below u.heap.size u w' from fun u => by
    have e : ((a : Int) / 16777216 % 256) = ((qB a 0 : Nat) : Int) := by unfold qB; simp
    rw [e]
    exact rdec_ok (qB a 0) u (by unfold qB; omega))
  have HD1 := Lib.hid (show ∀ u, Calls Tryz.prog 96 #[.int .i64 ((a : Int) / 65536 % 256)] u fun e w' => e = .returned (.string (bs (decB (qB a 1)))) ∧ Below u.heap.size u w' from fun u => by
    have e : ((a : Int) / 65536 % 256) = ((qB a 1 : Nat) : Int) := by unfold qB; simp
    rw [e]
    exact rdec_ok (qB a 1) u (by unfold qB; omega))
  have HD2 := Lib.hid (show ∀ u, Calls Tryz.prog 96 #[.int .i64 ((a : Int) / 256 % 256)] u fun e w' => e = .returned (.string (bs (decB (qB a 2)))) ∧ Below u.heap.size u w' from fun u => by
    have e : ((a : Int) / 256 % 256) = ((qB a 2 : Nat) : Int) := by unfold qB; simp
    rw [e]
    exact rdec_ok (qB a 2) u (by unfold qB; omega))
  have HD3 := Lib.hid (show ∀ u, Calls Tryz.prog 96 #[.int .i64 ((a : Int) % 256)] u fun e w' => e = .returned (.string (bs (decB (qB a 3)))) ∧ Below u.heap.size u w' from fun u => by
    have e : ((a : Int) % 256) = ((qB a 3 : Nat) : Int) := by unfold qB; simp
    rw [e]
    exact rdec_ok (qB a 3) u (by unfold qB; omega))
  go_enter Tryz.func97, Tryz.ntmps97
  go_wp2_with fail
  go_loopw [3, 4] (fun v3 v4 wr => ∃ (k : Nat) (S : ByteArray), k ≤ 4 ∧ v4 = .int .i64 (ik k) ∧ v3 = .string S ∧ Hid (S = bs (preD a k)) ∧ S.size ≤ 4 * k ∧ Below w.heap.size w wr) (fun _ v4 _ => (intOf v4 + 1).toNat)
  case atStart => exact ⟨0, ⟨#[]⟩, by omega, rfl, rfl, Lib.hid rfl, by decide, Below.refl _ _⟩
  case round =>
    obtain ⟨k, S, hk, rfl, rfl, HS, hz, hbel⟩ := hrel
    match k, hk with
    | 0, _ =>
      simp only [ik]
      obtain ⟨d, hd⟩ : ∃ d, bs (decB (qB a 0)) = d := ⟨_, rfl⟩
      have hdz : d.size ≤ 3 := by rw [← hd, bs_size]; exact dec_len3 _ (by unfold qB; omega)
      have HD := Lib.hid (show ∀ u, Calls Tryz.prog 96 #[.int .i64 ((a : Int) / 16777216 % 256)] u fun e w' => e = .returned (.string d) ∧ Below u.heap.size u w' from fun u => by rw [← hd]; exact HD0.out u)
      have HN := Lib.hid (show S ++ d ++ ⟨#[46]⟩ = bs (preD a (0 + 1)) by
        rw [HS.out, ← hd, preD_succ a 0, bs_append]
        rw [show (⟨#[46]⟩ : ByteArray) = bs [46] from rfl, bs_append, List.append_assoc]; rfl)
      have HNZ := Lib.hid (show (S ++ d ++ ⟨#[46]⟩).size ≤ 4 * (0 + 1) by (have h46 : (⟨#[46]⟩ : ByteArray).size = 1 := rfl); simp only [ByteArray.size_append, h46]; omega)
      clear hd
      go_wp2_with (go_at_call 96; refine (HD.out _).mono ?_; rintro e w2 ⟨rfl, hb2⟩)
      go_roundw
      case rel => exact ⟨0 + 1, S ++ d ++ ⟨#[46]⟩, by omega, rfl, rfl, HN, HNZ.out, hbel.trans (hb2.mono hbel.size)⟩
      case measure => decide
    | 1, _ =>
      simp only [ik]
      obtain ⟨d, hd⟩ : ∃ d, bs (decB (qB a 1)) = d := ⟨_, rfl⟩
      have hdz : d.size ≤ 3 := by rw [← hd, bs_size]; exact dec_len3 _ (by unfold qB; omega)
      have HD := Lib.hid (show ∀ u, Calls Tryz.prog 96 #[.int .i64 ((a : Int) / 65536 % 256)] u fun e w' => e = .returned (.string d) ∧ Below u.heap.size u w' from fun u => by rw [← hd]; exact HD1.out u)
      have HN := Lib.hid (show S ++ d ++ ⟨#[46]⟩ = bs (preD a (1 + 1)) by
        rw [HS.out, ← hd, preD_succ a 1, bs_append]
        rw [show (⟨#[46]⟩ : ByteArray) = bs [46] from rfl, bs_append, List.append_assoc]; rfl)
      have HNZ := Lib.hid (show (S ++ d ++ ⟨#[46]⟩).size ≤ 4 * (1 + 1) by (have h46 : (⟨#[46]⟩ : ByteArray).size = 1 := rfl); simp only [ByteArray.size_append, h46]; omega)
      clear hd
      go_wp2_with (go_at_call 96; refine (HD.out _).mono ?_; rintro e w2 ⟨rfl, hb2⟩)
      go_roundw
      case rel => exact ⟨1 + 1, S ++ d ++ ⟨#[46]⟩, by omega, rfl, rfl, HN, HNZ.out, hbel.trans (hb2.mono hbel.size)⟩
      case measure => decide
    | 2, _ =>
      simp only [ik]
      obtain ⟨d, hd⟩ : ∃ d, bs (decB (qB a 2)) = d := ⟨_, rfl⟩
      have hdz : d.size ≤ 3 := by rw [← hd, bs_size]; exact dec_len3 _ (by unfold qB; omega)
      have HD := Lib.hid (show ∀ u, Calls Tryz.prog 96 #[.int .i64 ((a : Int) / 256 % 256)] u fun e w' => e = .returned (.string d) ∧ Below u.heap.size u w' from fun u => by rw [← hd]; exact HD2.out u)
      have HN := Lib.hid (show S ++ d ++ ⟨#[46]⟩ = bs (preD a (2 + 1)) by
        rw [HS.out, ← hd, preD_succ a 2, bs_append]
        rw [show (⟨#[46]⟩ : ByteArray) = bs [46] from rfl, bs_append, List.append_assoc]; rfl)
      have HNZ := Lib.hid (show (S ++ d ++ ⟨#[46]⟩).size ≤ 4 * (2 + 1) by (have h46 : (⟨#[46]⟩ : ByteArray).size = 1 := rfl); simp only [ByteArray.size_append, h46]; omega)
      clear hd
      go_wp2_with (go_at_call 96; refine (HD.out _).mono ?_; rintro e w2 ⟨rfl, hb2⟩)
      go_roundw
      case rel => exact ⟨2 + 1, S ++ d ++ ⟨#[46]⟩, by omega, rfl, rfl, HN, HNZ.out, hbel.trans (hb2.mono hbel.size)⟩
      case measure => decide
    | 3, _ =>
      simp only [ik]
      obtain ⟨d, hd⟩ : ∃ d, bs (decB (qB a 3)) = d := ⟨_, rfl⟩
      have hdz : d.size ≤ 3 := by rw [← hd, bs_size]; exact dec_len3 _ (by unfold qB; omega)
      have HD := Lib.hid (show ∀ u, Calls Tryz.prog 96 #[.int .i64 ((a : Int) % 256)] u fun e w' => e = .returned (.string d) ∧ Below u.heap.size u w' from fun u => by rw [← hd]; exact HD3.out u)
      have HN := Lib.hid (show S ++ d = bs (preD a (3 + 1)) by
        rw [HS.out, ← hd, preD_succ a 3, bs_append]
        rw [if_neg (by omega), List.append_nil])
      have HNZ := Lib.hid (show (S ++ d).size ≤ 4 * (3 + 1) by (have h46 : (⟨#[46]⟩ : ByteArray).size = 1 := rfl); simp only [ByteArray.size_append, h46]; omega)
      clear hd
      go_wp2_with (go_at_call 96; refine (HD.out _).mono ?_; rintro e w2 ⟨rfl, hb2⟩)
      go_roundw
      case rel => exact ⟨3 + 1, S ++ d, by omega, rfl, rfl, HN, HNZ.out, hbel.trans (hb2.mono hbel.size)⟩
      case measure => decide
    | 4, _ =>
      simp only [ik]
      have HF := Lib.hid (HS.out.trans HR.out)
      go_wp2
      go_ret
      exact ⟨by rw [← HF.out]; rfl, hbel⟩
    | m + 5, h => omega
end Go.Proofs.YtekobdmlgbffnaaGreatDoor

/- The document's own: Slash: its contract. (Written by gen_sref.py.) -/
namespace Go.Proofs.YtekobdmlgbffnaaGreatDoor
set_option linter.unusedVariables false
set_option maxRecDepth 100000
set_option linter.unusedSimpArgs false
open Go.RowKit

set_option maxHeartbeats 2000000 in
theorem rslash_ok (n : Nat) (bits : Int) (w : World) (hn : n < 4294967296) :
    Calls Tryz.prog 55 #[.agg #[.int .u32 n, .int .i64 bits]] w fun e w' => e = .returned (.string (bs (slashL n bits))) ∧ Below w.heap.size w w' := by
  have HS := Lib.hid (NetAt.new w n bits 85)
  by_cases hr : rightB n bits = true
  · have hb : 0 ≤ bits ∧ bits ≤ 32 := by
      unfold rightB at hr
      simp only [Bool.and_eq_true, decide_eq_true_eq] at hr
      exact hr.1
    obtain ⟨b, rfl⟩ := Int.eq_ofNat_of_zero_le hb.1
    have hb2 : b ≤ 32 := by omega
    have HR := Lib.hid (fun u => rright_ok n b u hn)
    rw [hr] at HR
    obtain ⟨D, hD⟩ : ∃ D, bs (dotsB n) = D := ⟨_, rfl⟩
    obtain ⟨E, hE⟩ : ∃ E, bs (decB b) = E := ⟨_, rfl⟩
    have z1 : D.size ≤ 15 := by rw [← hD, bs_size]; exact dots_len n
    have z2 : E.size ≤ 3 := by rw [← hE, bs_size]; exact dec_len3 b (by omega)
    have HO := Lib.hid (fun u => rdots_ok n u hn)
    rw [hD] at HO
    have HC := Lib.hid (fun u => rdec_ok b u (by omega))
    rw [hE] at HC
    have HL := Lib.hid (show bs (slashL n b) = D ++ ⟨#[47]⟩ ++ E by
      rw [← hD, ← hE, show (⟨#[47]⟩ : ByteArray) = bs [47] from rfl, bs_append, bs_append]
      unfold slashL
      rw [if_pos hr, List.append_assoc]; rfl)
    obtain ⟨R, hRR⟩ : ∃ R, bs (slashL n b) = R := ⟨_, rfl⟩
    rw [hRR] at HL ⊢
    clear hr hb hD hE hRR
    go_enter Tryz.func55, Tryz.ntmps55
    go_wp2_with (go_at_call 88; refine (HR.out _).mono ?_; rintro e w2 ⟨rfl, hb3⟩)
    have HS2 := Lib.hid (HS.out.on HS.out.b.size hb3).draw
    clear hb3
    try simp only [List.cons_append, List.nil_append]
    refine wp_region_held_drew (S := fun u => NetAt w.heap.size w w.heap.size n b u) (by kernel_rfl) (HS2.out) (fun hHeld => ?_)
    refine tk (some 6) 0 (v := ?_) rfl rfl ?_ hHeld ?_
    rotate_left
    · intro wz hSw; have hc0 := hSw.c0; have hc1 := hSw.c1; go_simp; try (with_reducible rfl)
    try simp only [lay]
    refine tk (some 7) 1 (v := ?_) rfl rfl ?_ hHeld ?_
    rotate_left
    · intro wz hSw; have hc0 := hSw.c0; have hc1 := hSw.c1; go_simp; try (with_reducible rfl)
    try simp only [lay]
    refine tk (some 10) 4 (v := ?_) rfl rfl ?_ hHeld ?_
    rotate_left
    · intro wz hSw; have hc0 := hSw.c0; have hc1 := hSw.c1; go_simp; try (with_reducible rfl)
    try simp only [lay]
    refine tk (some 11) 5 (v := ?_) rfl rfl ?_ hHeld ?_
    rotate_left
    · intro wz hSw; have hc0 := hSw.c0; have hc1 := hSw.c1; go_simp; try (with_reducible rfl)
    try simp only [lay]
    refine wpAnyH_ready (rs := [2]) (by kernel_rfl) (by simp) (AllReadyH.cons rfl (fun K hK => ?_) AllReadyH.nil)
    rw [if_pos (by kernel_rfl)]
    go_simp
    refine (HO.out _).mono ?_
    rintro e u2 ⟨rfl, hbu⟩
    try dsimp only
    refine hK.out _ _ (hHeld.on hHeld.b.size hbu) (fun hHeld => ?_)
    try simp only [lay]
    refine tk (some 9) 3 (v := ?_) rfl rfl ?_ hHeld ?_
    rotate_left
    · intro wz hSw; have hq1 : ¬ 9223372036854775807 < D.size + 1 := (by omega); go_simp; try (with_reducible rfl)
    try simp only [lay]
    refine wpAnyH_ready (rs := [6]) (by kernel_rfl) (by simp) (AllReadyH.cons rfl (fun K hK => ?_) AllReadyH.nil)
    rw [if_pos (by kernel_rfl)]
    go_simp
    refine (HC.out _).mono ?_
    rintro e u3 ⟨rfl, hbu⟩
    try dsimp only
    refine hK.out _ _ (hHeld.on hHeld.b.size hbu) (fun hHeld => ?_)
    try simp only [lay]
    refine tk (some 13) 7 (v := ?_) rfl rfl ?_ hHeld ?_
    rotate_left
    · intro wz hSw; have hq1 : ¬ 9223372036854775807 < D.size + 1 + E.size := (by omega); go_simp; try (with_reducible rfl)
    try simp only [lay]
    refine tk (some 2) 8 (v := ?_) rfl rfl ?_ hHeld ?_
    rotate_left
    · intro wz hSw; have hq1 : ¬ 9223372036854775807 < D.size + 1 + E.size := (by omega); go_simp; try (with_reducible rfl)
    try simp only [lay]
    refine wpAnyH_done (by kernel_rfl) ?_ _
    go_wp2
    go_ret
    exact ⟨by rw [HL.out]; rfl, hHeld.b⟩
  · have hr2 : rightB n bits = false := by simpa using hr
    have HR := Lib.hid (fun u => rright_ok n bits u hn)
    rw [hr2] at HR
    have HL := Lib.hid (show bs (slashL n bits) = ⟨#[]⟩ by unfold slashL; rw [hr2]; rfl)
    rw [HL.out]
    clear hr hr2
    go_enter Tryz.func55, Tryz.ntmps55
    go_wp2_with (go_at_call 88; refine (HR.out _).mono ?_; rintro e w2 ⟨rfl, hb3⟩)
    go_ret
    exact ⟨rfl, HS.out.b.trans (hb3.mono HS.out.b.size)⟩
end Go.Proofs.YtekobdmlgbffnaaGreatDoor

/- The document's own: Net: its contract. -/
namespace Go.Proofs.YtekobdmlgbffnaaGreatDoor
set_option linter.unusedVariables false
set_option maxRecDepth 100000
set_option linter.unusedSimpArgs false
open Go.RowKit

theorem parE_is (r : Option (Nat × Nat)) : ∃ (n : Nat) (b : Bool), parE r = .returned (.tuple #[.int .i64 n, .bool b]) := by
  cases r with
  | none => exact ⟨0, false, rfl⟩
  | some x => exact ⟨x.1, true, rfl⟩
theorem netO_cut (s : ByteArray) : netO s = if (cutL 47 s.data.toList).2.2 = true then (match addrO (bs (cutL 47 s.data.toList).1), upToO 32 (bs (cutL 47 s.data.toList).2.1) with
    | some a, some b => if rightB a b = true then some (a, b) else none
    | _, _ => none) else none := by
  unfold netO
  rw [pieces_cut]
  cases hm : (cutL 47 s.data.toList).2.2 with
  | false => simp [netL]
  | true =>
    simp only [if_true]
    rw [pieces_cut 47 (cutL 47 s.data.toList).2.1]
    cases hm2 : (cutL 47 (cutL 47 s.data.toList).2.1).2.2 with
    | false =>
      have := (cutL_join 47 (cutL 47 s.data.toList).2.1).2 hm2
      rw [← this.1]
      simp only [Bool.false_eq_true, if_false, netL]
      cases addrO (bs (cutL 47 s.data.toList).1) <;> cases upToO 32 (bs (cutL 47 s.data.toList).2.1) <;> rfl
    | true =>
      have hj := (cutL_join 47 (cutL 47 s.data.toList).2.1).1 hm2
      have hu : upToO 32 (bs (cutL 47 s.data.toList).2.1) = none := by
        cases h : upToO 32 (bs (cutL 47 s.data.toList).2.1) with
        | none => rfl
        | some n =>
          have e := bs_inj (upToO_is 32 n _ h).2
          have : (47 : UInt8) ∈ decB n := by rw [← e, hj]; simp
          exact (dec_no n 47 (by decide) this).elim
      rw [hu, pieces_cut 47 (cutL 47 (cutL 47 s.data.toList).2.1).2.1]
      simp only [if_true, netL]
      split
      · rename_i h; cases h
      · rfl

set_option maxRecDepth 100000 in
set_option maxHeartbeats 4000000 in
theorem rfnet_ok (s : ByteArray) (W : World) (hs : s.size ≤ 140737488355328) :
    Calls Tryz.prog 76 #[.string s] W fun e w' => e = .returned (.tuple #[.agg #[.int .u32 (((netO s).getD (0, 0)).1 : Nat), .int .i64 (((netO s).getD (0, 0)).2 : Nat)], .bool (netO s).isSome]) ∧ Below W.heap.size W w' := by
  obtain ⟨R, hR⟩ : ∃ R, R = netO s := ⟨_, rfl⟩
  rw [← hR]
  rw [netO_cut] at hR
  obtain ⟨p, q, m, hc⟩ : ∃ p q m, cutL 47 s.data.toList = (p, q, m) := ⟨_, _, _, rfl⟩
  have hsz := cutL_len 47 s.data.toList
  rw [hc] at hR hsz
  simp only at hR hsz
  have hl : s.data.toList.length = s.size := rfl
  have HC := Lib.hid (fun u => rcut_ok s 47 u hs)
  rw [show cutV 47 s = .tuple #[.string (bs p), .string (bs q), .bool m] by unfold cutV; rw [hc]] at HC
  rw [show (((47 : UInt8).toNat : Nat) : Int) = 47 from rfl] at HC
  obtain ⟨P, hP⟩ : ∃ P, bs p = P := ⟨_, rfl⟩
  obtain ⟨Q, hQ⟩ : ∃ Q, bs q = Q := ⟨_, rfl⟩
  have HA := Lib.hid (fun u => raddr_ok P u (by rw [← hP, bs_size]; omega))
  have HPR := Lib.hid (fun u => rparse_ok Q u (by rw [← hQ, bs_size]; omega))
  rw [hP, hQ] at HC hR
  clear hP hQ hc hsz hl
  unfold upToO at hR
  cases m with
  | false =>
    have HN := Lib.hid (show R = none by rw [hR]; simp)
    obtain ⟨pn, pb, hpe⟩ := parE_is (parseS Q)
    rw [hpe] at HPR
    clear hR hpe
    go_enter Tryz.func76, Tryz.ntmps76
    go_upto_region 1 with (fail)
    obtain ⟨W1, hW1⟩ : ∃ W1, W.alloc (.cells #[.int .u32 0, .int .i64 0] 85) = W1 := ⟨_, rfl⟩
    have hz : Bk W1 W.heap.size 85 #[.int .u32 0, .int .i64 0] := by rw [← hW1]; exact Bk.new _ _ _
    have hB : Below W.heap.size W W1 := by rw [← hW1]; exact (Below.refl _ _).alloc (Nat.le_refl _) _
    rw [hW1]
    clear hW1
    have c0 : W1.cell? ⟨W.heap.size, 0, none⟩ = some (.int .u32 0) := by rw [hz.cell]; rfl
    have c1 : W1.cell? ⟨W.heap.size, 1, none⟩ = some (.int .i64 0) := by rw [hz.cell]; rfl
    have f0 := hz.frozen 0
    have f1 := hz.frozen 1
    have HZ := Lib.hid hz
    clear hz
    go_wp2_with fail
    refine (HC.out _).mono ?_
    rintro e v1 ⟨rfl, k1, rfl⟩
    go_wp2_with fail
    refine (HA.out _).mono ?_
    rintro e v2 ⟨rfl, k2, rfl⟩
    go_wp2_with fail
    refine (HPR.out _).mono ?_
    rintro e v3 ⟨rfl, rfl⟩
    go_wp2_with fail
    all_goals first | (exfalso; have hh := ‹some undef = some (Value.bool _)›; injection hh with hh; cases hh; done) | skip
    have hzz := ((HZ.out.drewN (k1 + k2)).set 0 (.int .u32 0)).set 1 (.int .i64 0)
    have hBB : Below W.heap.size W (((W1.drewN (k1 + k2)).setCell ⟨W.heap.size, 0, none⟩ (.int .u32 0)).setCell ⟨W.heap.size, 1, none⟩ (.int .i64 0)) := (((below_drewN hB (k1 + k2))).setCell (p := ⟨W.heap.size, 0, none⟩) (Nat.le_refl _) _).setCell (p := ⟨W.heap.size, 1, none⟩) (Nat.le_refl _) _
    obtain ⟨u2, hu2⟩ : ∃ u2, ((W1.drewN (k1 + k2)).setCell ⟨W.heap.size, 0, none⟩ (.int .u32 0)).setCell ⟨W.heap.size, 1, none⟩ (.int .i64 0) = u2 := ⟨_, rfl⟩
    rw [hu2] at hzz hBB ⊢
    have q0 : u2.cell? ⟨W.heap.size, 0, none⟩ = some (.int .u32 0) := by rw [hzz.cell]; rfl
    have q1 : u2.cell? ⟨W.heap.size, 1, none⟩ = some (.int .i64 0) := by rw [hzz.cell]; rfl
    rw [HN.out]
    exact bodyPost_ret (v := .tuple #[.agg #[.int .u32 0, .int .i64 0], .bool false]) (by simp [results, Tryz.results76, go_sem, q0, q1]) rfl ⟨rfl, hBB⟩
  | true =>
    simp only [if_true] at hR
    cases ha : addrO P with
    | none =>
      rw [ha] at hR HA
      have HN := Lib.hid (show R = none by rw [hR])
      simp only [Option.getD_none, Option.isSome_none] at HA
      obtain ⟨pn, pb, hpe⟩ := parE_is (parseS Q)
      rw [hpe] at HPR
      clear hR ha hpe
      go_enter Tryz.func76, Tryz.ntmps76
      go_upto_region 1 with (fail)
      obtain ⟨W1, hW1⟩ : ∃ W1, W.alloc (.cells #[.int .u32 0, .int .i64 0] 85) = W1 := ⟨_, rfl⟩
      have hz : Bk W1 W.heap.size 85 #[.int .u32 0, .int .i64 0] := by rw [← hW1]; exact Bk.new _ _ _
      have hB : Below W.heap.size W W1 := by rw [← hW1]; exact (Below.refl _ _).alloc (Nat.le_refl _) _
      rw [hW1]
      clear hW1
      have c0 : W1.cell? ⟨W.heap.size, 0, none⟩ = some (.int .u32 0) := by rw [hz.cell]; rfl
      have c1 : W1.cell? ⟨W.heap.size, 1, none⟩ = some (.int .i64 0) := by rw [hz.cell]; rfl
      have f0 := hz.frozen 0
      have f1 := hz.frozen 1
      have HZ := Lib.hid hz
      clear hz
      go_wp2_with fail
      refine (HC.out _).mono ?_
      rintro e v1 ⟨rfl, k1, rfl⟩
      go_wp2_with fail
      refine (HA.out _).mono ?_
      rintro e v2 ⟨rfl, k2, rfl⟩
      go_wp2_with fail
      refine (HPR.out _).mono ?_
      rintro e v3 ⟨rfl, rfl⟩
      go_wp2_with fail
      all_goals first | (exfalso; have hh := ‹some undef = some (Value.bool _)›; injection hh with hh; cases hh; done) | skip
      have hzz := ((HZ.out.drewN (k1 + k2)).set 0 (.int .u32 0)).set 1 (.int .i64 0)
      have hBB : Below W.heap.size W (((W1.drewN (k1 + k2)).setCell ⟨W.heap.size, 0, none⟩ (.int .u32 0)).setCell ⟨W.heap.size, 1, none⟩ (.int .i64 0)) := (((below_drewN hB (k1 + k2))).setCell (p := ⟨W.heap.size, 0, none⟩) (Nat.le_refl _) _).setCell (p := ⟨W.heap.size, 1, none⟩) (Nat.le_refl _) _
      obtain ⟨u2, hu2⟩ : ∃ u2, ((W1.drewN (k1 + k2)).setCell ⟨W.heap.size, 0, none⟩ (.int .u32 0)).setCell ⟨W.heap.size, 1, none⟩ (.int .i64 0) = u2 := ⟨_, rfl⟩
      rw [hu2] at hzz hBB ⊢
      have q0 : u2.cell? ⟨W.heap.size, 0, none⟩ = some (.int .u32 0) := by rw [hzz.cell]; rfl
      have q1 : u2.cell? ⟨W.heap.size, 1, none⟩ = some (.int .i64 0) := by rw [hzz.cell]; rfl
      rw [HN.out]
      exact bodyPost_ret (v := .tuple #[.agg #[.int .u32 0, .int .i64 0], .bool false]) (by simp [results, Tryz.results76, go_sem, q0, q1]) rfl ⟨rfl, hBB⟩
    | some x =>
      have hx := (addr_is P x ha).1
      rw [ha] at hR HA
      simp only [Option.getD_some, Option.isSome_some] at HA
      clear ha
      cases hp : parseS Q with
      | none =>
        rw [hp] at hR HPR
        have HN := Lib.hid (show R = none by rw [hR])
        simp only [parE] at HPR
        clear hR hp
        go_enter Tryz.func76, Tryz.ntmps76
        go_upto_region 1 with (fail)
        obtain ⟨W1, hW1⟩ : ∃ W1, W.alloc (.cells #[.int .u32 0, .int .i64 0] 85) = W1 := ⟨_, rfl⟩
        have hz : Bk W1 W.heap.size 85 #[.int .u32 0, .int .i64 0] := by rw [← hW1]; exact Bk.new _ _ _
        have hB : Below W.heap.size W W1 := by rw [← hW1]; exact (Below.refl _ _).alloc (Nat.le_refl _) _
        rw [hW1]
        clear hW1
        have c0 : W1.cell? ⟨W.heap.size, 0, none⟩ = some (.int .u32 0) := by rw [hz.cell]; rfl
        have c1 : W1.cell? ⟨W.heap.size, 1, none⟩ = some (.int .i64 0) := by rw [hz.cell]; rfl
        have f0 := hz.frozen 0
        have f1 := hz.frozen 1
        have HZ := Lib.hid hz
        clear hz
        go_wp2_with fail
        refine (HC.out _).mono ?_
        rintro e v1 ⟨rfl, k1, rfl⟩
        go_wp2_with fail
        refine (HA.out _).mono ?_
        rintro e v2 ⟨rfl, k2, rfl⟩
        go_wp2_with fail
        refine (HPR.out _).mono ?_
        rintro e v3 ⟨rfl, rfl⟩
        go_wp2_with fail
        all_goals first | (exfalso; have hh := ‹some undef = some (Value.bool _)›; injection hh with hh; cases hh; done) | skip
        have hzz := ((HZ.out.drewN (k1 + k2)).set 0 (.int .u32 0)).set 1 (.int .i64 0)
        have hBB : Below W.heap.size W (((W1.drewN (k1 + k2)).setCell ⟨W.heap.size, 0, none⟩ (.int .u32 0)).setCell ⟨W.heap.size, 1, none⟩ (.int .i64 0)) := (((below_drewN hB (k1 + k2))).setCell (p := ⟨W.heap.size, 0, none⟩) (Nat.le_refl _) _).setCell (p := ⟨W.heap.size, 1, none⟩) (Nat.le_refl _) _
        obtain ⟨u2, hu2⟩ : ∃ u2, ((W1.drewN (k1 + k2)).setCell ⟨W.heap.size, 0, none⟩ (.int .u32 0)).setCell ⟨W.heap.size, 1, none⟩ (.int .i64 0) = u2 := ⟨_, rfl⟩
        rw [hu2] at hzz hBB ⊢
        have q0 : u2.cell? ⟨W.heap.size, 0, none⟩ = some (.int .u32 0) := by rw [hzz.cell]; rfl
        have q1 : u2.cell? ⟨W.heap.size, 1, none⟩ = some (.int .i64 0) := by rw [hzz.cell]; rfl
        rw [HN.out]
        exact bodyPost_ret (v := .tuple #[.agg #[.int .u32 0, .int .i64 0], .bool false]) (by simp [results, Tryz.results76, go_sem, q0, q1]) rfl ⟨rfl, hBB⟩
      | some nk =>
        obtain ⟨n, kk⟩ := nk
        have hn1 := (parse_is Q n kk hp).1
        rw [hp] at hR HPR
        simp only [parE] at HPR hR
        clear hp
        by_cases hle : n ≤ 32
        · rw [if_pos hle] at hR
          simp only at hR
          have d32 : decide ((32 : Int) < (n : Int)) = false := by simp <;> omega
          have HRT := Lib.hid (fun u => rright_ok x n u hx)
          cases hr : rightB x n with
          | true =>
            rw [hr] at hR HRT
            have HN := Lib.hid (show R = some (x, n) by rw [hR]; rfl)
            clear hR hr
            go_enter Tryz.func76, Tryz.ntmps76
            go_upto_region 1 with (fail)
            obtain ⟨W1, hW1⟩ : ∃ W1, W.alloc (.cells #[.int .u32 0, .int .i64 0] 85) = W1 := ⟨_, rfl⟩
            have hz : Bk W1 W.heap.size 85 #[.int .u32 0, .int .i64 0] := by rw [← hW1]; exact Bk.new _ _ _
            have hB : Below W.heap.size W W1 := by rw [← hW1]; exact (Below.refl _ _).alloc (Nat.le_refl _) _
            rw [hW1]
            clear hW1
            have c0 : W1.cell? ⟨W.heap.size, 0, none⟩ = some (.int .u32 0) := by rw [hz.cell]; rfl
            have c1 : W1.cell? ⟨W.heap.size, 1, none⟩ = some (.int .i64 0) := by rw [hz.cell]; rfl
            have f0 := hz.frozen 0
            have f1 := hz.frozen 1
            have HZ := Lib.hid hz
            clear hz
            go_wp2_with fail
            refine (HC.out _).mono ?_
            rintro e v1 ⟨rfl, k1, rfl⟩
            go_wp2_with fail
            refine (HA.out _).mono ?_
            rintro e v2 ⟨rfl, k2, rfl⟩
            go_wp2_with fail
            refine (HPR.out _).mono ?_
            rintro e v3 ⟨rfl, rfl⟩
            go_wp2_with fail
            refine (HRT.out _).mono ?_
            rintro e v4 ⟨rfl, hb4⟩
            have hz4 := (HZ.out.drewN (k1 + k2)).below hb4 (HZ.out.drewN (k1 + k2)).lt
            have hB4 := (below_drewN hB (k1 + k2)).trans (hb4.mono (below_drewN hB (k1 + k2)).size)
            have HZ4 := Lib.hid hz4
            have g0 : v4.cell? ⟨W.heap.size, 0, none⟩ = some (.int .u32 0) := by rw [hz4.cell]; rfl
            have g1 : v4.cell? ⟨W.heap.size, 1, none⟩ = some (.int .i64 0) := by rw [hz4.cell]; rfl
            have e0 := hz4.frozen 0
            have e1 := hz4.frozen 1
            clear hz4 hb4 c0 c1 f0 f1
            go_wp2_with fail
            have hzz := (HZ4.out.set 0 (.int .u32 (x : Int))).set 1 (.int .i64 (n : Int))
            have hBB : Below W.heap.size W ((v4.setCell ⟨W.heap.size, 0, none⟩ (.int .u32 (x : Int))).setCell ⟨W.heap.size, 1, none⟩ (.int .i64 (n : Int))) := ((hB4).setCell (p := ⟨W.heap.size, 0, none⟩) (Nat.le_refl _) _).setCell (p := ⟨W.heap.size, 1, none⟩) (Nat.le_refl _) _
            obtain ⟨u2, hu2⟩ : ∃ u2, (v4.setCell ⟨W.heap.size, 0, none⟩ (.int .u32 (x : Int))).setCell ⟨W.heap.size, 1, none⟩ (.int .i64 (n : Int)) = u2 := ⟨_, rfl⟩
            rw [hu2] at hzz hBB ⊢
            have q0 : u2.cell? ⟨W.heap.size, 0, none⟩ = some (.int .u32 (x : Int)) := by rw [hzz.cell]; rfl
            have q1 : u2.cell? ⟨W.heap.size, 1, none⟩ = some (.int .i64 (n : Int)) := by rw [hzz.cell]; rfl
            rw [HN.out]
            exact bodyPost_ret (v := .tuple #[.agg #[.int .u32 (x : Int), .int .i64 (n : Int)], .bool true]) (by simp [results, Tryz.results76, go_sem, q0, q1]) rfl ⟨rfl, hBB⟩
          | false =>
            rw [hr] at hR HRT
            have HN := Lib.hid (show R = none by rw [hR]; rfl)
            clear hR hr
            go_enter Tryz.func76, Tryz.ntmps76
            go_upto_region 1 with (fail)
            obtain ⟨W1, hW1⟩ : ∃ W1, W.alloc (.cells #[.int .u32 0, .int .i64 0] 85) = W1 := ⟨_, rfl⟩
            have hz : Bk W1 W.heap.size 85 #[.int .u32 0, .int .i64 0] := by rw [← hW1]; exact Bk.new _ _ _
            have hB : Below W.heap.size W W1 := by rw [← hW1]; exact (Below.refl _ _).alloc (Nat.le_refl _) _
            rw [hW1]
            clear hW1
            have c0 : W1.cell? ⟨W.heap.size, 0, none⟩ = some (.int .u32 0) := by rw [hz.cell]; rfl
            have c1 : W1.cell? ⟨W.heap.size, 1, none⟩ = some (.int .i64 0) := by rw [hz.cell]; rfl
            have f0 := hz.frozen 0
            have f1 := hz.frozen 1
            have HZ := Lib.hid hz
            clear hz
            go_wp2_with fail
            refine (HC.out _).mono ?_
            rintro e v1 ⟨rfl, k1, rfl⟩
            go_wp2_with fail
            refine (HA.out _).mono ?_
            rintro e v2 ⟨rfl, k2, rfl⟩
            go_wp2_with fail
            refine (HPR.out _).mono ?_
            rintro e v3 ⟨rfl, rfl⟩
            go_wp2_with fail
            refine (HRT.out _).mono ?_
            rintro e v4 ⟨rfl, hb4⟩
            have hz4 := (HZ.out.drewN (k1 + k2)).below hb4 (HZ.out.drewN (k1 + k2)).lt
            have hB4 := (below_drewN hB (k1 + k2)).trans (hb4.mono (below_drewN hB (k1 + k2)).size)
            have HZ4 := Lib.hid hz4
            have g0 : v4.cell? ⟨W.heap.size, 0, none⟩ = some (.int .u32 0) := by rw [hz4.cell]; rfl
            have g1 : v4.cell? ⟨W.heap.size, 1, none⟩ = some (.int .i64 0) := by rw [hz4.cell]; rfl
            have e0 := hz4.frozen 0
            have e1 := hz4.frozen 1
            clear hz4 hb4 c0 c1 f0 f1
            go_wp2_with fail
            have hzz := (HZ4.out.set 0 (.int .u32 0)).set 1 (.int .i64 0)
            have hBB : Below W.heap.size W ((v4.setCell ⟨W.heap.size, 0, none⟩ (.int .u32 0)).setCell ⟨W.heap.size, 1, none⟩ (.int .i64 0)) := ((hB4).setCell (p := ⟨W.heap.size, 0, none⟩) (Nat.le_refl _) _).setCell (p := ⟨W.heap.size, 1, none⟩) (Nat.le_refl _) _
            obtain ⟨u2, hu2⟩ : ∃ u2, (v4.setCell ⟨W.heap.size, 0, none⟩ (.int .u32 0)).setCell ⟨W.heap.size, 1, none⟩ (.int .i64 0) = u2 := ⟨_, rfl⟩
            rw [hu2] at hzz hBB ⊢
            have q0 : u2.cell? ⟨W.heap.size, 0, none⟩ = some (.int .u32 0) := by rw [hzz.cell]; rfl
            have q1 : u2.cell? ⟨W.heap.size, 1, none⟩ = some (.int .i64 0) := by rw [hzz.cell]; rfl
            rw [HN.out]
            exact bodyPost_ret (v := .tuple #[.agg #[.int .u32 0, .int .i64 0], .bool false]) (by simp [results, Tryz.results76, go_sem, q0, q1]) rfl ⟨rfl, hBB⟩
        · rw [if_neg hle] at hR
          simp only at hR
          have d32 : decide ((32 : Int) < (n : Int)) = true := by simp <;> omega
          have HN := Lib.hid (show R = none by rw [hR])
          clear hR
          go_enter Tryz.func76, Tryz.ntmps76
          go_upto_region 1 with (fail)
          obtain ⟨W1, hW1⟩ : ∃ W1, W.alloc (.cells #[.int .u32 0, .int .i64 0] 85) = W1 := ⟨_, rfl⟩
          have hz : Bk W1 W.heap.size 85 #[.int .u32 0, .int .i64 0] := by rw [← hW1]; exact Bk.new _ _ _
          have hB : Below W.heap.size W W1 := by rw [← hW1]; exact (Below.refl _ _).alloc (Nat.le_refl _) _
          rw [hW1]
          clear hW1
          have c0 : W1.cell? ⟨W.heap.size, 0, none⟩ = some (.int .u32 0) := by rw [hz.cell]; rfl
          have c1 : W1.cell? ⟨W.heap.size, 1, none⟩ = some (.int .i64 0) := by rw [hz.cell]; rfl
          have f0 := hz.frozen 0
          have f1 := hz.frozen 1
          have HZ := Lib.hid hz
          clear hz
          go_wp2_with fail
          refine (HC.out _).mono ?_
          rintro e v1 ⟨rfl, k1, rfl⟩
          go_wp2_with fail
          refine (HA.out _).mono ?_
          rintro e v2 ⟨rfl, k2, rfl⟩
          go_wp2_with fail
          refine (HPR.out _).mono ?_
          rintro e v3 ⟨rfl, rfl⟩
          go_wp2_with fail
          all_goals first | (exfalso; have hh := ‹some undef = some (Value.bool _)›; injection hh with hh; cases hh; done) | skip
          have hzz := ((HZ.out.drewN (k1 + k2)).set 0 (.int .u32 0)).set 1 (.int .i64 0)
          have hBB : Below W.heap.size W (((W1.drewN (k1 + k2)).setCell ⟨W.heap.size, 0, none⟩ (.int .u32 0)).setCell ⟨W.heap.size, 1, none⟩ (.int .i64 0)) := (((below_drewN hB (k1 + k2))).setCell (p := ⟨W.heap.size, 0, none⟩) (Nat.le_refl _) _).setCell (p := ⟨W.heap.size, 1, none⟩) (Nat.le_refl _) _
          obtain ⟨u2, hu2⟩ : ∃ u2, ((W1.drewN (k1 + k2)).setCell ⟨W.heap.size, 0, none⟩ (.int .u32 0)).setCell ⟨W.heap.size, 1, none⟩ (.int .i64 0) = u2 := ⟨_, rfl⟩
          rw [hu2] at hzz hBB ⊢
          have q0 : u2.cell? ⟨W.heap.size, 0, none⟩ = some (.int .u32 0) := by rw [hzz.cell]; rfl
          have q1 : u2.cell? ⟨W.heap.size, 1, none⟩ = some (.int .i64 0) := by rw [hzz.cell]; rfl
          rw [HN.out]
          exact bodyPost_ret (v := .tuple #[.agg #[.int .u32 0, .int .i64 0], .bool false]) (by simp [results, Tryz.results76, go_sem, q0, q1]) rfl ⟨rfl, hBB⟩
end Go.Proofs.YtekobdmlgbffnaaGreatDoor

/- The document's own: with: the line of a net, of a token: the mathematics. (Written by gen_cza.py.) -/
namespace Go.Proofs.YtekobdmlgbffnaaGreatDoor
set_option linter.unusedVariables false
set_option maxRecDepth 100000
set_option linter.unusedSimpArgs false
open Go.RowKit

theorem readW_net (c : Cg) (l : List (List UInt8)) : readW c (wNet :: l) = readNet c l := by
  simp only [readW]
  rw [if_neg (by decide), if_neg (by decide), if_pos trivial]
theorem readW_tok (c : Cg) (l : List (List UInt8)) : readW c (wToken :: l) = readToken c l := by
  simp only [readW]
  rw [if_neg (by decide), if_neg (by decide), if_neg (by decide), if_pos trivial]
theorem last_of (a0 a1 a2 a3 : Int) (T : List Tv) (y : Tv) (A : Option Addr) (c : Nat) : lastC (Cv.cg ⟨a0, a1, a2, a3, T ++ [y], A, c⟩) = some y.t := by
  unfold lastC Cv.cg
  simp
theorem set_of (a0 a1 a2 a3 : Int) (T : List Tv) (y z : Tv) (A A' : Option Addr) (c c' : Nat) : setC (Cv.cg ⟨a0, a1, a2, a3, T ++ [y], A, c⟩) z.t = Cv.cg ⟨a0, a1, a2, a3, T ++ [z], A', c'⟩ := by
  unfold setC Cv.cg
  simp
/-- The rows of a configuration whose last tenant is another one. -/
theorem rc_last {w u : World} {a0 a1 a2 a3 : Int} {T : List Tv} {y z : Tv} {A A' : Option Addr} {c c' B : Nat} (h : RC w ⟨a0, a1, a2, a3, T ++ [y], A, c⟩) (hb : Below w.heap.size w u) (ho : Ow 33 5 tcs u B A' c' (T ++ [z])) (hz : RT1 u z) : RC u ⟨a0, a1, a2, a3, T ++ [z], A', c'⟩ :=
  ⟨⟨Ow.rw_ (k := 5) (f := tcs) (fun _ => rfl) ho, fun q hq => by
    rcases List.mem_append.1 hq with hq | hq
    · exact (h.r.each q (List.mem_append_left _ hq)).on hb
    · obtain rfl := List.mem_singleton.1 hq
      exact hz⟩, ho.fit⟩
end Go.Proofs.YtekobdmlgbffnaaGreatDoor
