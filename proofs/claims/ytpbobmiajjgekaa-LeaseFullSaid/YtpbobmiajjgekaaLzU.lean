/- Many names, up to as many as may be; word: its contract. -/
import Derived.Test.YtpbobmiajjgekaaLzK
namespace Go.Proofs.Ytpbobmiajjgekaa
set_option linter.unusedVariables false
set_option maxRecDepth 100000
set_option linter.unusedSimpArgs false
open Go.RowKit

def wordB (k : Nat) : ByteArray := ⟨#[UInt8.ofNat (97 + k / 10), UInt8.ofNat (48 + k % 10)]⟩
theorem word_name : ∀ k, k < 90 → nameB (wordB k) = true := by decide +kernel
theorem word_inj {k j : Nat} (hk : k < 90) (hj : j < 90) (h : wordB k = wordB j) : k = j := by
  unfold wordB at h
  injection h with h
  simp only [Array.mk.injEq, List.cons.injEq, and_true] at h
  obtain ⟨h1, h2⟩ := h
  have e1 := congrArg UInt8.toNat h1
  have e2 := congrArg UInt8.toNat h2
  rw [UInt8.toNat_ofNat_of_lt' (by show _ < 256; omega), UInt8.toNat_ofNat_of_lt' (by show _ < 256; omega)] at e1 e2
  omega
set_option maxHeartbeats 1000000 in
theorem word_ok (k : Nat) (hk : k < 90) (w : World) : Calls Try.prog 32 #[.int .i64 (k : Int)] w fun e w' => e = .returned (.string (wordB k)) ∧ Below w.heap.size w w' := by
  obtain ⟨a, ha⟩ : ∃ a, k / 10 = a := ⟨_, rfl⟩
  obtain ⟨c, hc⟩ : ∃ c, k % 10 = c := ⟨_, rfl⟩
  obtain ⟨p, hp⟩ : ∃ p, 97 + a = p := ⟨_, rfl⟩
  obtain ⟨q, hq⟩ : ∃ q, 48 + c = q := ⟨_, rfl⟩
  have h1 : (k : Int) / 10 = (a : Int) := by omega
  have h2 : (k : Int) % 10 = (c : Int) := by omega
  have hpb : p < 256 := by omega
  have hqb : q < 256 := by omega
  have w1 : IntKind.u8.wrap (a : Int) = (a : Int) := by rw [IntKind.wrap_u8]; omega
  have w2 : IntKind.u8.wrap (c : Int) = (c : Int) := by rw [IntKind.wrap_u8]; omega
  have w3 : IntKind.u8.wrap (97 + (a : Int)) = (p : Int) := by rw [IntKind.wrap_u8]; omega
  have w4 : IntKind.u8.wrap (48 + (c : Int)) = (q : Int) := by rw [IntKind.wrap_u8]; omega
  have hl : bcells [UInt8.ofNat p, UInt8.ofNat q] = #[.int .u8 (p : Int), .int .u8 (q : Int)] := by
    unfold bcells
    simp only [List.map_cons, List.map_nil]
    rw [show u8 (UInt8.ofNat p) = .int .u8 (p : Int) from by unfold u8; rw [UInt8.toNat_ofNat_of_lt' (by show p < 256; exact hpb)], show u8 (UInt8.ofNat q) = .int .u8 (q : Int) from by unfold u8; rw [UInt8.toNat_ofNat_of_lt' (by show q < 256; exact hqb)]]
  have hs := str_of (P := Try.prog) (Rb.new w 5 [UInt8.ofNat p, UInt8.ofNat q]) 79 5 9 Try.underlying79 Try.underlying5 Try.underlying9 2 2 rfl
  rw [hl] at hs
  have HW := Lib.hid (show (⟨[UInt8.ofNat p, UInt8.ofNat q].toArray⟩ : ByteArray) = wordB k by unfold wordB; rw [← hp, ← hq, ← ha, ← hc])
  rw [HW.out] at hs
  clear hpb hqb hl ha hc hp hq
  go_enter Try.func32, Try.ntmps32
  go_wp2
  go_ret
  exact ⟨rfl, (Below.refl _ _).alloc (Nat.le_refl _) _⟩
/-- Of the first i names those that may be are held. -/
structure FuI (b : Bo) (i : Nat) : Prop where
  a : ∀ y ∈ b.l, ∃ k, k < min i 64 ∧ y.name = wordB k ∧ y.ten = nAnn ∧ y.till = 10 ∧ y.held = true
  h : ∀ k, k < min i 64 → ∃ y ∈ b.l, y.name = wordB k
  n : b.l.length = min i 64
  x : b.nx ≤ (i : Int) + 1
theorem fu_none {b : Bo} {i k : Nat} (h : FuI b i) (hi : i ≤ 80) (hk : min i 64 ≤ k) (hk9 : k < 90) : fnL (wordB k) b.l = none := by
  refine List.find?_eq_none.2 fun y hy e => ?_
  obtain ⟨j, hj, e2, _⟩ := h.a y hy
  have := word_inj (by omega) hk9 (e2.symm.trans ((nmE_iff _ _).1 e))
  omega
theorem fu_some {b : Bo} {i k : Nat} (h : FuI b i) (hup : UpL b.l) (hk : k < min i 64) : ∃ y, fnL (wordB k) b.l = some y ∧ y.ten = nAnn ∧ y.till = 10 ∧ y.held = true := by
  obtain ⟨y, hy, e⟩ := h.h k hk
  obtain ⟨j, _, _, h1, h2, h3⟩ := h.a y hy
  exact ⟨y, by rw [← e]; exact fn_of_mem hup hy, h1, h2, h3⟩
theorem fu_next {b : Bo} {i : Nat} (h : FuI b i) (hup : UpL b.l) (hi : i < 64) : ∃ x, claimL 5 1000 b nAnn (wordB i) 1 0 10 = (x, 0, ⟨ptL x b.l, b.nx + 1⟩) ∧ FuI ⟨ptL x b.l, b.nx + 1⟩ (i + 1) := by
  have hf := fu_none h (by omega) (by omega) (show i < 90 by omega)
  refine ⟨⟨wordB i, nAnn, 1, b.nx, 0 + min 10 1000, true⟩, ?_, ?_⟩
  · unfold claimL
    rw [nm_ann, word_name i (by omega), show clkB 0 = true from by decide, show timB 10 = true from by decide, if_neg (by simp), hf]
    dsimp only
    rw [if_neg (by rw [h.n]; omega)]
  · have hp := ptL_perm (x := ⟨wordB i, nAnn, 1, b.nx, 0 + min 10 1000, true⟩) hup
    have hd : drL (wordB i) b.l = b.l := drL_none fun y hy => by
      have := List.find?_eq_none.1 hf y hy
      simpa using this
    dsimp only at hp
    rw [hd] at hp
    refine ⟨fun y hy => ?_, fun k hk => ?_, ?_, ?_⟩
    · rcases List.mem_cons.1 (hp.mem_iff.1 hy) with rfl | hy
      · exact ⟨i, by omega, rfl, rfl, by show (0 : Int) + min 10 1000 = 10; decide, rfl⟩
      · obtain ⟨k, h1, h2⟩ := h.a y hy
        exact ⟨k, by omega, h2⟩
    · by_cases e : k = i
      · subst e
        exact ⟨_, hp.mem_iff.2 (List.mem_cons_self ..), rfl⟩
      · obtain ⟨y, hy, e2⟩ := h.h k (by omega)
        exact ⟨y, hp.mem_iff.2 (List.mem_cons_of_mem _ hy), e2⟩
    · show (ptL _ b.l).length = _
      rw [hp.length_eq, List.length_cons, h.n]
      omega
    · have := h.x
      show b.nx + 1 ≤ _
      omega
theorem fu_stay {b : Bo} {i : Nat} (h : FuI b i) (h1 : 64 ≤ i) (hi : i < 80) : claimL 5 1000 b nAnn (wordB i) 1 0 10 = (zeroLs, 2, b) ∧ FuI b (i + 1) := by
  have hf := fu_none h (by omega) (by omega) (show i < 90 by omega)
  constructor
  · unfold claimL
    rw [nm_ann, word_name i (by omega), show clkB 0 = true from by decide, show timB 10 = true from by decide, if_neg (by simp), hf]
    dsimp only
    rw [if_pos (by rw [h.n]; omega)]
  · have e : min (i + 1) 64 = min i 64 := by omega
    exact ⟨by rw [e]; exact h.a, by rw [e]; exact h.h, by rw [e]; exact h.n, by have := h.x; omega⟩
/-- Claimed once more. -/
theorem fu_again {b : Bo} {i k N : Nat} (h : FuI b i) (hup : UpL b.l) (hi : i ≤ 80) (hk : k < 90) (hN : N < 256) :
    (k < min i 64 ∧ N < 10 ∧ claimL 5 1000 b nAnn (wordB k) 2 (N : Int) 10 = (zeroLs, 4, b)) ∨
    (k < min i 64 ∧ 10 ≤ N ∧ ∃ x, claimL 5 1000 b nAnn (wordB k) 2 (N : Int) 10 = (x, 0, ⟨ptL x b.l, b.nx + 1⟩) ∧ (ptL x b.l).length = min i 64) ∨
    (min i 64 ≤ k ∧ i < 64 ∧ ∃ x, claimL 5 1000 b nAnn (wordB k) 2 (N : Int) 10 = (x, 0, ⟨ptL x b.l, b.nx + 1⟩)) ∨
    (min i 64 ≤ k ∧ 64 ≤ i ∧ claimL 5 1000 b nAnn (wordB k) 2 (N : Int) 10 = (zeroLs, 2, b)) := by
  by_cases hlt : k < min i 64
  · obtain ⟨y, hf, h1, h2, h3⟩ := fu_some h hup hlt
    have hh : heL y (N : Int) = decide ((N : Int) < 10) := by unfold heL; rw [h3, h2, Bool.true_and]
    by_cases hn : N < 10
    · refine .inl ⟨hlt, hn, ?_⟩
      unfold claimL
      rw [nm_ann, word_name k hk, clk_nat N (by omega), show timB 10 = true from by decide, if_neg (by simp), hf]
      dsimp only
      rw [h1, (nmE_iff nAnn nAnn).2 rfl, if_neg (by simp), hh, decide_eq_true (by omega), if_pos rfl]
    · refine .inr (.inl ⟨hlt, by omega, ⟨wordB k, nAnn, 2, b.nx, (N : Int) + min 10 1000, true⟩, ?_, ?_⟩)
      · unfold claimL
        rw [nm_ann, word_name k hk, clk_nat N (by omega), show timB 10 = true from by decide, if_neg (by simp), hf]
        dsimp only
        rw [h1, (nmE_iff nAnn nAnn).2 rfl, if_neg (by simp), hh, decide_eq_false (by omega), if_neg (by simp)]
      · rw [ptL_map hup (y := y) hf, List.length_map, h.n]
  · have hf := fu_none h hi (by omega) hk
    by_cases h64 : i < 64
    · refine .inr (.inr (.inl ⟨by omega, h64, ⟨wordB k, nAnn, 2, b.nx, (N : Int) + min 10 1000, true⟩, ?_⟩))
      unfold claimL
      rw [nm_ann, word_name k hk, clk_nat N (by omega), show timB 10 = true from by decide, if_neg (by simp), hf]
      dsimp only
      rw [if_neg (by rw [h.n]; omega)]
    · refine .inr (.inr (.inr ⟨by omega, by omega, ?_⟩))
      unfold claimL
      rw [nm_ann, word_name k hk, clk_nat N (by omega), show timB 10 = true from by decide, if_neg (by simp), hf]
      dsimp only
      rw [if_pos (by rw [h.n]; omega)]
end Go.Proofs.Ytpbobmiajjgekaa
