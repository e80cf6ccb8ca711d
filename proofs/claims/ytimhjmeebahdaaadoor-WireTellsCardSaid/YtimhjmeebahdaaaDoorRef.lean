/- The document's answers for numbers: Put, Text, Read: their contracts. -/
import Derived.Test.YtimhjmeebahdaaaDoorGetMath
import Derived.Test.YtimhjmeebahdaaaDoorRText
namespace Go.Proofs.YtimhjmeebahdaaaDoor
set_option linter.unusedVariables false
set_option linter.unusedSimpArgs false
open Go.RowKit

/-- The marked digits of a number; none of 0. -/
def mk128 (r : Nat) : List UInt8 := if r = 0 then [] else (dg 128 r).map fun d => UInt8.ofNat (d + 128)
theorem putB_mk (n : Nat) : putB n = mk128 (n / 128) ++ [UInt8.ofNat (n % 128)] := by
  unfold putB mk128
  by_cases h : n < 128
  · have : n / 128 = 0 := Nat.div_eq_of_lt h
    simp [h, this]
  · have : n / 128 ≠ 0 := by have := Nat.div_pos (by omega : 128 ≤ n) (by omega); omega
    simp [h]
theorem mk128_step (r : Nat) (h : 0 < r) : mk128 r = mk128 (r / 128) ++ [UInt8.ofNat (r % 128 + 128)] := by
  unfold mk128
  rw [if_neg (by omega)]
  by_cases hr : r < 128
  · rw [dg_small hr, Nat.div_eq_of_lt hr, Nat.mod_eq_of_lt hr]; rfl
  · have : r / 128 ≠ 0 := by have := Nat.div_pos (by omega : 128 ≤ r) (by omega); omega
    rw [dg_big (by omega) hr, if_neg this, List.map_append]; rfl

set_option maxHeartbeats 1000000 in
theorem rput_ok (n : Nat) (w : World) (h1 : n ≤ 1099511627776) :
    Calls Tryd.prog 29 #[.int .i64 n] w fun e w' => ∃ A c, e = .returned (.slice A (putB n).length c) ∧ OB w' w.heap.size 5 A c (putB n) ∧ Below w.heap.size w w' := by
  have hm := Nat.mod_lt n (by omega : 128 > 0)
  have e0 : (UInt8.ofNat (n % 128)).toNat = n % 128 := u8_ofNat _ (by omega)
  obtain ⟨R, hR⟩ : ∃ R, R = putB n := ⟨_, rfl⟩
  rw [← hR]
  have HR := Lib.hid (hR.trans (putB_mk n))
  have hlen : R.length ≤ 1099511627778 := by
    have h1 := dg_len 128 (by omega) (n / 128)
    rw [hR]
    unfold putB
    split <;> simp <;> omega
  clear hR
  have HO := Lib.hid (OB.one (w := w) (B := w.heap.size) (t := 5) (c := UInt8.ofNat (n % 128)) (v := ((n % 128 : Nat) : Int)) (Nat.le_refl _) (by rw [e0]))
  clear e0
  go_enter Tryd.func29, Tryd.ntmps29
  go_wp2_with fail
  go_loopw [0, 3] (fun v0 v3 wr => ∃ (r : Nat) (t : List UInt8) (A : Option Addr) (c L : Nat), v0 = .int .i64 r ∧ r ≤ 1099511627776 ∧ v3 = .slice A L c ∧ Hid (t.length = L) ∧ Hid (OB wr w.heap.size 5 A c t) ∧ Hid (A ≠ none) ∧ Hid (R = mk128 r ++ t) ∧ Below w.heap.size w wr) (fun v0 _ _ => (intOf v0).toNat)
  case atStart => exact ⟨n / 128, [UInt8.ofNat (n % 128)], _, _, _, by go_num, Nat.le_trans (Nat.div_le_self _ _) h1, rfl, Lib.hid rfl, HO, Lib.hid (by simp), HR, by go_grown⟩
  case round =>
    obtain ⟨r, t, A, c, L, rfl, hr, rfl, HT, HOt, HA, HE, hbel⟩ := hrel
    by_cases hz : 0 < r
    · have hm2 := Nat.mod_lt r (by omega : 128 > 0)
      have e1 : (UInt8.ofNat (r % 128 + 128)).toNat = r % 128 + 128 := u8_ofNat _ (by omega)
      obtain ⟨v, hv⟩ : ∃ v : Int, v = ((r % 128 + 128 : Nat) : Int) := ⟨_, rfl⟩
      have HB := Lib.hid (fun (wx : World) (hx : w.heap.size ≤ wx.heap.size) (u : Int) (hu : u = ((r % 128 + 128 : Nat) : Int)) => OB.one (w := wx) (B := w.heap.size) (t := 5) (c := UInt8.ofNat (r % 128 + 128)) (v := u) hx (by rw [hu, e1]))
      have hE2 : R = mk128 (r / 128) ++ (UInt8.ofNat (r % 128 + 128) :: t) := by rw [HE.out, mk128_step r hz, List.append_assoc]; rfl
      have HE2 := Lib.hid hE2
      have hLb : L ≤ 1099511627778 := by
        have h3 := congrArg List.length HE.out
        rw [List.length_append, HT.out] at h3
        omega
      clear e1 hv hE2
      go_wp2_with (at_builtin; refine wp_app_any rfl (.tmp 24) (.tmp 25) 24 5 rfl Tryd.underlying24 byInfo w.heap.size [UInt8.ofNat (r % 128 + 128)] _ _ _ rfl rfl (HB.out wr hbel.size _ (by omega)) t _ _ _ _ rfl HT.out (by intro h; exact absurd h HA.out) (HOt.out.rb.below ((Below.refl wr.heap.size wr).alloc (Nat.le_refl _) _) (Nat.le_refl _)) (by have := HT.out; simp only [List.length_cons, List.length_nil]; omega) (by simp only [World.size_alloc]; have := hbel.size; omega) ?_; intro A3 c3 w4 ho3 hg3 hb3)
      go_roundw
      case rel =>
        refine ⟨r / 128, UInt8.ofNat (r % 128 + 128) :: t, A3, c3, _, by go_num, Nat.le_trans (Nat.div_le_self _ _) hr, rfl, Lib.hid rfl, Lib.hid ho3, Lib.hid ?_, HE2, (hbel.alloc hbel.size _).trans hb3⟩
        obtain ⟨g, e, _⟩ := OB.form ho3 (by simp)
        rw [e]; simp
      case measure => simp [intOf]; omega
    · have hr0 : r = 0 := by omega
      have hRt : R = t := by rw [HE.out, hr0]; rfl
      have HRt := Lib.hid hRt
      clear hRt hr0
      go_wp2
      go_ret
      exact ⟨A, c, by rw [HRt.out, HT.out]; rfl, by rw [HRt.out]; exact HOt.out, hbel⟩

set_option maxHeartbeats 400000 in
theorem rput_none (n : Int) (w : World) (h1 : n < 0 ∨ 1099511627776 < n) :
    Calls Tryd.prog 29 #[.int .i64 n] w fun e w' => e = .returned (.slice none 0 0) ∧ w = w' := by
  rcases h1 with h1 | h1
  · go_enter Tryd.func29, Tryd.ntmps29
    go_wp2
    go_ret
    exact ⟨rfl, rfl⟩
  · have h2 : ¬ n < 0 := by omega
    go_enter Tryd.func29, Tryd.ntmps29
    go_wp2
    go_ret
    exact ⟨rfl, rfl⟩

end Go.Proofs.YtimhjmeebahdaaaDoor
