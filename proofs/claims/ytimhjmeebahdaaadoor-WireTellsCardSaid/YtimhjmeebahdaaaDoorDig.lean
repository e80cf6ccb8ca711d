/- num.digits: its contract. -/
import Derived.Test.YtimhjmeebahdaaaDoorRows
import Derived.Test.YtimhjmeebahdaaaDoorInfo
import Derived.Test.YtimhjmeebahdaaaDoorDigMath
namespace Go.Proofs.YtimhjmeebahdaaaDoor
set_option linter.unusedVariables false
set_option linter.unusedSimpArgs false
open Go.RowKit


theorem d_nonneg (n b : Nat) : (0 : Int) ≤ (n : Int) / (b : Int) := Int.ediv_nonneg (by omega) (by omega)
theorem d_le (n b k : Nat) (h : n ≤ k) : (n : Int) / (b : Int) ≤ (k : Int) := by
  have : n / b ≤ k := Nat.le_trans (Nat.div_le_self _ _) h
  have e : (n : Int) / (b : Int) = ((n / b : Nat) : Int) := by simp
  rw [e]; omega
theorem d_set {b n m k q : Nat} (h : k < m) (hq : q = n / b ^ k) (hb : 1 ≤ b) (hb2 : b ≤ 128) :
    (dcells b n m k).setIfInBounds (m - 1 - k) (.int .u8 ((q : Int) % (b : Int) % 256)) = dcells b n m (k + 1) := by
  rw [← dcells_set b n m k h, ← hq]
  have h1 : q % b < b := Nat.mod_lt _ (by omega)
  have h2 : (q : Int) % (b : Int) % 256 = ((q % b : Nat) : Int) := by
    have e : (q : Int) % (b : Int) = ((q % b : Nat) : Int) := by simp
    rw [e]; omega
  rw [h2]
theorem m_le {b m : Nat} (hb : 2 ≤ b) (h : b ^ m ≤ 1099511627776) : m + 1 ≤ 41 := by
  have h1 : 2 ^ m ≤ b ^ m := Nat.pow_le_pow_left hb m
  have h2 : (2 : Nat) ^ m ≤ 2 ^ 40 := Nat.le_trans h1 (by simpa using h)
  have := (Nat.pow_le_pow_iff_right (by omega : 1 < 2)).1 h2
  omega

set_option maxHeartbeats 400000 in
theorem digits_ok (n b : Nat) (w : World) (h1 : n ≤ 1099511627776) (hb : 2 ≤ b) (hb2 : b ≤ 128) :
    Calls Tryd.prog 34 #[.int .i64 n, .int .i64 b] w fun e w' => ∃ L : Nat, 1 ≤ L ∧ L ≤ 41 ∧ n < b ^ L ∧ (L = 1 ∨ b ^ (L - 1) ≤ n) ∧
      e = .returned (.slice (some ⟨w.heap.size, 0, none⟩) L L) ∧ w' = w.alloc (.cells (dcells b n L L) 5) := by
  have hmk := fun (m : Nat) (hm : m ≤ 41) => mk_bytes (P := Tryd.prog) w 24 5 Tryd.underlying24 bytesInfo m (by omega) (dcells b n m 0) (dcells_none b n m)
  have d0 : (0 : Int) ≤ (n : Int) / (b : Int) := d_nonneg n b
  have d00 : (n : Int) / (b : Int) ≤ 1099511627776 := d_le n b _ h1
  go_enter Tryd.func34, Tryd.ntmps34
  go_wp2
  go_loop [5, 6] (fun v5 v6 => ∃ m r : Nat, 1 ≤ m ∧ m ≤ 41 ∧ (m = 1 ∨ b ^ (m - 1) ≤ n) ∧ v5 = .int .i64 m ∧ r ≤ 1099511627776 ∧ Hid (r = n / b ^ m) ∧ v6 = .int .i64 (r : Int)) (fun _ v6 => (intOf v6).toNat)
  case atStart => exact ⟨1, n / b, by omega, by omega, .inl rfl, rfl, Nat.le_trans (Nat.div_le_self _ _) h1, Lib.hid (by simp), by simp⟩
  case round =>
    obtain ⟨m, r, hm1, hm2, hm3, rfl, hr, Hr, rfl⟩ := hrel
    have d1 : (0 : Int) ≤ (r : Int) / (b : Int) := d_nonneg r b
    have d2 : (r : Int) / (b : Int) ≤ 1099511627776 := d_le r b _ hr
    by_cases hz : 0 < r
    · go_wp2
      go_round
      case rel =>
        have h40 : b ^ m ≤ n := by
          have := Hr.out; rw [this] at hz
          exact (Nat.div_pos_iff.1 hz).2
        exact ⟨m + 1, r / b, by omega, m_le hb (Nat.le_trans h40 h1), .inr h40, by go_num, Nat.le_trans (Nat.div_le_self _ _) hr, Lib.hid (by rw [Hr.out, Nat.div_div_eq_div_mul, Nat.pow_succ]), by simp⟩
      case measure =>
        simp [intOf]
        exact Nat.div_lt_self hz (by omega)
    · have hlt : Hid (n < b ^ m) := by
        have := Hr.out
        have h0 : n / b ^ m = 0 := by omega
        exact Lib.hid ((Nat.div_eq_zero_iff_lt (Nat.pow_pos (by omega))).1 h0)
      clear Hr
      go_wp2
      go_loopw [0, 28] (fun v0 v28 wr => ∃ k q : Nat, k ≤ m ∧ v28 = .int .i64 k ∧ q ≤ 1099511627776 ∧ Hid (q = n / b ^ k) ∧ v0 = .int .i64 (q : Int) ∧ wr = w.alloc (.cells (dcells b n m k) 5)) (fun _ v28 _ => m - (intOf v28).toNat)
      case atStart => exact ⟨0, n, by omega, rfl, h1, Lib.hid (by simp), rfl, rfl⟩
      case round =>
        obtain ⟨k, q, hk, rfl, hq, Hq, rfl, rfl⟩ := hrel
        clear d1 d2
        have d1 : (0 : Int) ≤ (q : Int) / (b : Int) := d_nonneg q b
        have d2 : (q : Int) / (b : Int) ≤ 1099511627776 := d_le q b _ hq
        by_cases hkm : k < m
        · have hcell : (dcells b n m k)[m - 1 - k]? = some (.int .u8 0) := by
            rw [dcells_at _ _ _ _ _ (by omega), if_neg (by omega)]
          go_wp2
          go_roundw
          case rel =>
            exact ⟨k + 1, q / b, by omega, by go_num, Nat.le_trans (Nat.div_le_self _ _) hq, Lib.hid (by rw [Hq.out, Nat.div_div_eq_div_mul, Nat.pow_succ]), by simp, by rw [d_set hkm Hq.out (by omega) hb2]⟩
          case measure => simp [intOf]; omega
        · have ekm : k = m := by omega
          subst ekm
          go_wp2
          go_ret
          exact ⟨k, hm1, hm2, hlt.out, hm3, rfl, rfl⟩

set_option maxHeartbeats 400000 in
theorem digits_none (n b : Int) (w : World) (h1 : n < 0 ∨ 1099511627776 < n) :
    Calls Tryd.prog 34 #[.int .i64 n, .int .i64 b] w fun e w' => e = .returned (.slice none 0 0) ∧ w = w' := by
  rcases h1 with h1 | h1
  · go_enter Tryd.func34, Tryd.ntmps34
    go_wp2
    go_ret
    exact ⟨rfl, rfl⟩
  · have h2 : ¬ n < 0 := by omega
    go_enter Tryd.func34, Tryd.ntmps34
    go_wp2
    go_ret
    exact ⟨rfl, rfl⟩

theorem dmark_set {a n b L k d : Nat} (h : k < L) (hd : d = n / b ^ (L - 1 - k) % b) : (pcells a n b L k).setIfInBounds k (.int .u8 ((d : Int) + (a : Int))) = pcells a n b L (k + 1) := by
  rw [← pcells_set a n b L k h, ← hd]; simp
theorem dmark_at {a n b L k d : Nat} (h : k < L) (hd : d = n / b ^ (L - 1 - k) % b) : (pcells a n b L k)[k]? = some (.int .u8 (d : Int)) := by
  rw [pcells_at _ _ _ _ _ _ h, if_neg (by omega), ← hd]

end Go.Proofs.YtimhjmeebahdaaaDoor
