/- The document's own sum. (Written by gen_rsum.py.) -/
import Derived.Test.YtinbegnojfpeiaaDoorRBlock
import Derived.Test.YtinbegnojfpeiaaDoorG5
import Derived.Test.YtinbegnojfpeiaaDoorG13
import Derived.Test.YtinbegnojfpeiaaDoorG7
namespace Go.Proofs.YtinbegnojfpeiaaDoor
set_option linter.unusedVariables false
set_option maxRecDepth 100000
set_option linter.unusedSimpArgs false
open Go.RowKit

def sLen : Value → Nat
  | .slice _ n _ => n
  | _ => 0
theorem fill_put (l : List UInt8) (k : Nat) (c : UInt8) : (bcells (l ++ List.replicate (k + 1) 0)).setIfInBounds l.length (u8 c) = bcells (l ++ [c] ++ List.replicate k 0) := by
  unfold bcells
  rw [List.setIfInBounds_toArray]
  congr 1
  rw [← List.map_set, List.set_append_right _ _ (Nat.le_refl _), Nat.sub_self, List.replicate_succ, List.set_cons_zero, List.append_assoc]
  rfl
/-- The bytes, the mark, and so many bytes 0. -/
def padA (l : List UInt8) (j : Nat) : List UInt8 := l ++ (128 :: List.replicate j 0)
theorem padA_len (l : List UInt8) (j : Nat) : (padA l j).length = l.length + 1 + j := by unfold padA; rw [List.length_append, List.length_cons, List.length_replicate]; omega
theorem padA_next (l : List UInt8) (j : Nat) : padA l (j + 1) = padA l j ++ [0] := by
  unfold padA
  rw [List.append_assoc, List.cons_append, ← List.replicate_succ']
theorem pad_A (l : List UInt8) (j : Nat) (h : l.length + 1 + j = 64 * nblk l.length - 8) : pad l = padA l j ++ be 8 (8 * l.length) := by
  unfold pad padA
  rw [be8_eq, show 64 * nblk l.length - 9 - l.length = j by omega]
theorem be_next (n k : Nat) (h : k < 8) : (be 8 n).take (k + 1) = (be 8 n).take k ++ [UInt8.ofNat (n / 2 ^ (8 * (7 - k)))] := by
  rw [List.take_add_one, be_at 8 n k h, show 8 - 1 - k = 7 - k by omega]
  rw [show (256 : Nat) = 2 ^ 8 by rfl, ← Nat.pow_mul]
  rfl
theorem s8_get (s : St) (a : Nat) (h : a < 8) : (s8 s)[a]? = some (wd (s.list.getD a 0)) := by
  obtain rfl | rfl | rfl | rfl | rfl | rfl | rfl | rfl : a = 0 ∨ a = 1 ∨ a = 2 ∨ a = 3 ∨ a = 4 ∨ a = 5 ∨ a = 6 ∨ a = 7 := by omega
  all_goals rfl
theorem outB_next (s : St) (i : Nat) (h : i < 32) : (outB s).take (i + 1) = (outB s).take i ++ [UInt8.ofNat ((s.list.getD (i / 4) 0) / 2 ^ (24 - 8 * (i % 4)))] := by
  rw [List.take_add_one]
  congr 1
  unfold outB
  rw [List.getElem?_map, List.getElem?_range h]; rfl
theorem outB_len (s : St) : (outB s).length = 32 := by unfold outB; rw [List.length_map, List.length_range]
theorem fill_next (l : List UInt8) (i : Nat) (c : UInt8) (hl : l.length = 32) (h : i < 32) (hn : l.take (i + 1) = l.take i ++ [c]) :
    (bcells (l.take i ++ List.replicate (32 - i) 0))[i]? = some (.int .u8 0) ∧ (bcells (l.take i ++ List.replicate (32 - i) 0)).setIfInBounds i (u8 c) = bcells (l.take (i + 1) ++ List.replicate (32 - (i + 1)) 0) := by
  have hi : (l.take i).length = i := by rw [List.length_take]; omega
  obtain ⟨k, hk⟩ : ∃ k, 32 - i = k + 1 := ⟨31 - i, by omega⟩
  rw [hk, show 32 - (i + 1) = k by omega]
  constructor
  · have e : (l.take i ++ List.replicate (k + 1) (0 : UInt8))[i]? = some 0 := by
      rw [List.getElem?_append_right (by omega), hi, Nat.sub_self, List.getElem?_replicate, if_pos (by omega)]
    obtain ⟨hlt, he⟩ := List.getElem?_eq_some_iff.1 e
    rw [bcells_at _ i hlt, he]; rfl
  · have := fill_put (l.take i) k c
    rw [hi] at this
    rw [this, hn]
theorem s0_new (w : World) : Bk (w.alloc (.cells #[.int .u32 0, .int .u32 0, .int .u32 0, .int .u32 0, .int .u32 0, .int .u32 0, .int .u32 0, .int .u32 0] 80)) w.heap.size 80 (wcells [0, 0, 0, 0, 0, 0, 0, 0]) := Bk.new w 80 _

set_option maxRecDepth 100000 in
set_option maxHeartbeats 4000000 in
theorem rsum_ok (A : Option Addr) (n c : Nat) (l : List UInt8) (w : World) (hl : l.length = n) (hc : n ≤ c) (hn : n ≤ 1099511627776) (hnil : A = none → n = 0 ∧ c = 0) (hR : Rb w w.heap.size A l) :
    Calls Tryd.prog 40 #[.slice A n c] w fun e w' => e = .returned (.agg (bcells (sum l))) ∧ Below w.heap.size w w' := by
  have HL := Lib.hid hl
  have HR := Lib.hid hR
  have HNIL := Lib.hid hnil
  obtain ⟨M, hM⟩ : ∃ M, M = 64 * nblk n - 8 := ⟨_, rfl⟩
  have hM2 : n + 1 ≤ M ∧ M < n + 65 ∧ M % 64 = 56 ∧ M ≤ 1099511627900 := by unfold nblk at hM; omega
  have HM := Lib.hid hM
  have HE8 := Lib.hid (show ∀ r, (Tryd.prog.info? 80).map (·.size) = some (s8 r).size from fun r => by rw [s8_size]; kernel_rfl)
  clear hl hR hnil hM
  go_enter Tryd.func40, Tryd.ntmps40
  go_upto_region 1 with fail
  refine gen_world (fun u => Bk u w.heap.size 68 (bcells (List.replicate 32 0)) ∧ Below w.heap.size w u ∧ w.heap.size < u.heap.size) ⟨zeros_new w, by go_grown, by simp⟩ (fun w1 hw1 => ?_)
  have HA1 := Lib.hid hw1.1
  have HB1 := Lib.hid hw1.2.1
  have HS1 := Lib.hid hw1.2.2
  clear hw1
  have hE : OB (w1.alloc (.cells #[] 5)) w1.heap.size 5 (some ⟨w1.heap.size, 0, none⟩) 0 [] := OB.new 5 [] (Nat.le_refl _) (by decide)
  have HE := Lib.hid hE
  have HZ3 := Lib.hid (show w1.heap.size ≤ (w1.alloc (.cells #[] 5)).heap.size by simp)
  have HRW := Lib.hid (show Rb (w1.alloc (.cells #[] 5)) (w1.alloc (.cells #[] 5)).heap.size A l from ((HR.out.below HB1.out (Nat.le_refl _)).below ((Below.refl w.heap.size w1).alloc HB1.out.size _) (Nat.le_refl _)).more (by have h1 := HB1.out.size; have h2 := HZ3.out; omega))
  clear hE
  go_wp2_with (first
    | (at_builtin; refine wp_app_any rfl (.tmp 10) (.tmp 11) 50 5 rfl Tryd.underlying50 bytesInfo w1.heap.size [] _ 0 0 rfl rfl HE.out l A n c _ rfl HL.out HNIL.out HRW.out (by have := HL.out; simp only [List.length_nil]; omega) HZ3.out ?_; intro A4 c4 w4 ho4 hg4 hb4; rw [show (([] : List UInt8) ++ l).length = n from HL.out])
    | (at_builtin; refine wp_app rfl (.tmp 12) (.tmp 13) 50 5 rfl Tryd.underlying50 bytesInfo w1.heap.size l A4 n c4 rfl HL.out (OB.alloc ho4 _) [128] _ 1 _ _ rfl rfl (Rb.one (w := w4) (c := 128) rfl rfl) (by have := HL.out; simp only [List.length_singleton]; omega) (by have := hb4.size; have := HZ3.out; simp only [World.size_alloc] at *; omega) ?_; intro A5 c5 w5 ho5 hg5 hb5; rw [show (l ++ [(128 : UInt8)]).length = n + 1 by rw [List.length_append, HL.out]; rfl]))
  have HO5 := Lib.hid (show OB w5 w1.heap.size 5 A5 c5 (padA l 0) from ho5)
  have HB5 := Lib.hid (show Below w1.heap.size w1 w5 from ((((Below.refl _ _).alloc (Nat.le_refl _) _).trans hb4).alloc (by have := hb4.size; have := HZ3.out; omega) _).trans hb5)
  clear ho4 hg4 hb4 ho5 hg5 hb5 HE HZ3 HRW
  go_loopw [3] (fun v3 wr => ∃ (j L : Nat) (A2 : Option Addr) (c2 : Nat), v3 = .slice A2 L c2 ∧ L = n + 1 + j ∧ L ≤ M ∧ Hid (OB wr w1.heap.size 5 A2 c2 (padA l j)) ∧ Hid (Below w1.heap.size w1 wr)) (fun v3 _ => M - sLen v3)
  case atStart => exact ⟨0, n + 1, A5, c5, rfl, rfl, hM2.1, HO5, HB5⟩
  case round =>
    obtain ⟨j, L, A2, c2, rfl, hL, hLM, HO, HB⟩ := hrel
    have HLJ := Lib.hid hL
    clear HO5 HB5
    by_cases hlt : L < M
    · obtain ⟨q, hq⟩ : ∃ q, q = L % 64 := ⟨_, rfl⟩
      have e1 : (L : Int) % 64 = (q : Int) := by omega
      have e2 : (L : Int).tmod 64 = (q : Int) := by rw [Int.tmod_eq_emod_of_nonneg (by omega)]; exact e1
      have e3 : ((q : Int) == 56) = false := by rw [beq_eq_false_iff_ne]; omega
      have e4 : ((q : Int) != 56) = true := by rw [bne_iff_ne]; omega
      have HPL := Lib.hid (show (padA l j).length = L by rw [padA_len, HL.out]; exact hL.symm)
      have HLM := Lib.hid (And.intro hlt hLM)
      clear hq hL
      go_wp2_with (at_builtin; refine wp_app rfl (.tmp 19) (.tmp 20) 50 5 rfl Tryd.underlying50 bytesInfo w1.heap.size (padA l j) A2 L c2 rfl HPL.out (HO.out.alloc _) [0] _ 1 _ _ rfl rfl (Rb.one (w := wr) (c := 0) rfl rfl) (by rw [HPL.out]; have := HLM.out; have := hM2.2.2.2; simp only [List.length_singleton]; omega) (by have := HB.out.size; simp only [World.size_alloc]; omega) ?_; intro A3 c3 w4 ho3 hg3 hb3; rw [show (padA l j ++ [(0 : UInt8)]).length = L + 1 by rw [List.length_append, HPL.out]; rfl])
      go_roundw
      case rel => exact ⟨j + 1, L + 1, A3, c3, rfl, by have := HLJ.out; omega, by have := HLM.out; omega, Lib.hid (by rw [padA_next]; exact ho3), Lib.hid ((HB.out.alloc HB.out.size _).trans hb3)⟩
      case measure => simp [sLen]; have := HLM.out; omega
    · have hLe : L = M := by omega
      subst hLe
      have e1 : (L : Int) % 64 = 56 := by omega
      have e2 : (L : Int).tmod 64 = 56 := by rw [Int.tmod_eq_emod_of_nonneg (by omega)]; exact e1
      have HPAD := Lib.hid (pad_A l j (by rw [HL.out, ← HM.out, hL]))
      have HPL := Lib.hid (show (padA l j).length = L by rw [padA_len, HL.out]; exact hL.symm)
      rw [HL.out] at HPAD
      obtain ⟨N, hN⟩ : ∃ N, N = 8 * n := ⟨_, rfl⟩
      rw [← hN] at HPAD
      have y1 : 8 * (n : Int) = (N : Int) := by omega
      obtain ⟨y2, y3⟩ := iwrap (8 * (n : Int)) N y1 (by omega)
      have HNN := Lib.hid hN
      have HLM := Lib.hid hM2
      obtain ⟨P, hP⟩ : ∃ P, P = padA l j := ⟨_, rfl⟩
      rw [← hP] at HPAD HPL HO
      clear hL hN hP hM2 hlt hLM y1
      go_wp2_with fail
      clear y2 y3 e1 e2
      go_loopw [5, 3] (fun v5 v3 wr => ∃ (k : Nat) (z : Int) (A3 : Option Addr) (c3 Q : Nat), k ≤ 8 ∧ v5 = .int .i64 z ∧ Hid (z = 7 - (k : Int)) ∧ v3 = .slice A3 Q c3 ∧ Hid ((P ++ (be 8 N).take k).length = Q) ∧ Hid (OB wr w1.heap.size 5 A3 c3 (P ++ (be 8 N).take k)) ∧ Hid (Below w1.heap.size w1 wr)) (fun v5 _ _ => (intOf v5 + 1).toNat)
      case atStart => exact ⟨0, 7, A2, c2, L, by omega, rfl, Lib.hid rfl, rfl, Lib.hid (by rw [List.take_zero, List.append_nil]; exact HPL.out), Lib.hid (by rw [List.take_zero, List.append_nil]; exact HO.out), HB⟩
      case round =>
        obtain ⟨k, z, A3, c3, Q, hk, rfl, HZ, rfl, HQ, HO3, HB3⟩ := hrel
        clear HO HB
        by_cases hk8 : k < 8
        · obtain ⟨m, hm⟩ : ∃ m, m + k = 7 := ⟨7 - k, by omega⟩
          have hz : z = (m : Int) := by have := HZ.out; omega
          subst hz
          have hm0 : (0 : Int) ≤ (m : Int) := by omega
          obtain ⟨q, hq⟩ : ∃ q, q = 8 * m := ⟨_, rfl⟩
          have a4 : (min q 64 : Nat) = q := by omega
          obtain ⟨x, hx⟩ : ∃ x, x = N / 2 ^ q := ⟨_, rfl⟩
          have a5 : (N : Int) / 2 ^ q = (x : Int) := by rw [hx, Int.natCast_ediv, Int.natCast_pow]; rfl
          have HXC := Lib.hid (show (x : Int) % 256 = ((UInt8.ofNat x).toNat : Int) by rw [UInt8.toNat_ofNat']; omega)
          have HNX := Lib.hid (show (be 8 N).take (k + 1) = (be 8 N).take k ++ [UInt8.ofNat x] by rw [hx, hq, show m = 7 - k by omega]; exact be_next N k hk8)
          have HQL := Lib.hid (show Q ≤ 1099511628000 by rw [← HQ.out, List.length_append, HPL.out, List.length_take]; have := HLM.out; omega)
          obtain ⟨a1, a2⟩ := iwrap (8 * (m : Int)) q (by omega) (by omega)
          clear hx hq HZ
          go_wp2_with (at_builtin; refine wp_app rfl (.tmp 29) (.tmp 35) 50 5 rfl Tryd.underlying50 bytesInfo w1.heap.size (P ++ (be 8 N).take k) A3 Q c3 rfl HQ.out (HO3.out.alloc _) [UInt8.ofNat x] _ 1 _ _ rfl rfl (Rb.one (w := wr) (c := UInt8.ofNat x) rfl HXC.out) (by rw [HQ.out]; have := HQL.out; simp only [List.length_singleton]; omega) (by have := HB3.out.size; simp only [World.size_alloc]; omega) ?_; intro A4 c4 w4 ho4 hg4 hb4; rw [show (P ++ (be 8 N).take k ++ [UInt8.ofNat x]).length = Q + 1 by rw [List.length_append, HQ.out]; rfl])
          go_roundw
          case rel => exact ⟨k + 1, (m : Int) - 1, A4, c4, Q + 1, by omega, by go_num, Lib.hid (by omega), rfl, Lib.hid (by rw [HNX.out, ← List.append_assoc, List.length_append, HQ.out]; rfl), Lib.hid (by rw [HNX.out, ← List.append_assoc]; exact ho4), Lib.hid ((HB3.out.alloc HB3.out.size _).trans hb4)⟩
          case measure => first | (simp [intOf]; done) | (simp [intOf]; omega)
        · have hz : z = -1 := by have := HZ.out; omega
          subst hz
          have HTK := Lib.hid (show P ++ (be 8 N).take k = pad l by rw [HPAD.out, List.take_of_length_le]; rw [be_len]; omega)
          rw [HTK.out] at HQ HO3
          obtain ⟨PAD, hPAD⟩ : ∃ PAD, PAD = pad l := ⟨_, rfl⟩
          have HPD := Lib.hid hPAD
          rw [← hPAD] at HQ HO3
          have HQ64 := Lib.hid (show Q = 64 * nblk n by
            rw [← HQ.out, hPAD, HPAD.out, List.length_append, HPL.out, be_len, HM.out]
            have : 1 ≤ nblk n := by unfold nblk; omega
            omega)
          obtain ⟨g, hAg, hgl, hgs⟩ := HO3.out.form (by intro h; have h1 := HQ.out; rw [h] at h1; simp at h1; have := HQ64.out; have : 1 ≤ nblk n := by unfold nblk; omega
                                                        omega)
          subst hAg
          have HRP0 := Lib.hid (show Rb wr wr.heap.size (some ⟨g, 0, none⟩) PAD from HO3.out.rb)
          have HCAP := Lib.hid (show Q ≤ c3 ∧ c3 ≤ 9223372036854775807 by have := HO3.out.cap; rw [HQ.out] at this; exact this)
          have HGS := Lib.hid hgs
          clear hPAD hgl hgs HZ HTK HPAD
          have HSUM := Lib.hid (show sum l = outB (thr S0 PAD (nblk n)) by rw [HPD.out]; unfold sum; rw [HL.out])
          obtain ⟨nb, hnb⟩ : ∃ nb, nb = nblk n := ⟨_, rfl⟩
          rw [← hnb] at HQ64 HSUM
          clear hnb
          go_upto_region 10 with (refine wpList_store_row rfl 80 (.tmp 6) (.tmp 37) rfl wr.heap.size (s8 S0) rfl rfl 80 _ (s0_new wr) (HE8.out _) (z8_size _) (s8_one _) ?_)
          refine gen_world (fun u => Bk u wr.heap.size 80 (s8 S0) ∧ Below wr.heap.size wr u) ⟨(s0_new wr).setRow _, Below.setRow ((Below.refl _ _).alloc (Nat.le_refl _) _) _ (Nat.le_refl _) _⟩ (fun w6 hw6 => ?_)
          have HK6 := Lib.hid hw6.1
          have HA6 := Lib.hid (show Bk w6 w.heap.size 68 (bcells (List.replicate 32 0)) from (HA1.out.below HB3.out HS1.out).below hw6.2 (by have h1 := HB3.out.size; have h2 := HS1.out; omega))
          have HRP := Lib.hid (show Rb w6 wr.heap.size (some ⟨g, 0, none⟩) PAD from HRP0.out.below hw6.2 (Nat.le_refl _))
          have HBW := Lib.hid (show Below w.heap.size w w6 from ((HB1.out.trans (HB3.out.mono (by have := HS1.out; omega))).trans (hw6.2.mono (by have h1 := HB3.out.size; have h2 := HS1.out; omega))))
          have HWS := Lib.hid (show w.heap.size < wr.heap.size by have h1 := HB3.out.size; have h2 := HS1.out; omega)
          obtain ⟨g6, hg6⟩ : ∃ g, g = wr.heap.size := ⟨_, rfl⟩
          rw [← hg6] at HK6 HRP HWS HGS ⊢
          clear hw6 hg6 HRP0 HO3 HB3
          obtain ⟨cA, hcA⟩ : ∃ cA, cA = c3 := ⟨_, rfl⟩
          rw [← hcA] at HCAP ⊢
          clear hcA
          have HG6 := Lib.hid (show g6 < w6.heap.size from HK6.out.lt)
          have hcap := HCAP.out
          go_wp2_with fail
          go_loopw [7] (fun v7 wr => ∃ k p : Nat, k ≤ nb ∧ Hid (p = 64 * k) ∧ v7 = .int .i64 p ∧ Hid (Bk wr g6 80 (s8 (thr S0 PAD k))) ∧ Hid (Below g6 w6 wr)) (fun v7 _ => Q - (intOf v7).toNat)
          case atStart => exact ⟨0, 0, by omega, Lib.hid rfl, rfl, HK6, Lib.hid (Below.refl _ _)⟩
          case round =>
            obtain ⟨k, p, hk, HP, rfl, HK, HB⟩ := hrel
            clear HK6
            by_cases hk1 : k < nb
            · have hp1 : p + 64 ≤ Q := by have := HP.out; have := HQ64.out; omega
              have hq9 : Q ≤ 9223372036854775807 := by omega
              obtain ⟨q, hq⟩ : ∃ q, q = p + 64 := ⟨_, rfl⟩
              have b1 : (p : Int) ≤ (q : Int) := by omega
              have b2 : (q : Int) ≤ (cA : Int) := by omega
              have b3 : (p : Int) < (Q : Int) := by omega
              have hsub : q - p = 64 := by omega
              have hcp : ¬ (cA = p) := by omega
              have HPL := Lib.hid (show ((PAD.drop p).take 64).length = 64 by rw [List.length_take, List.length_drop, HQ.out]; omega)
              have HCP := Lib.hid (show 64 ≤ cA - p by omega)
              have HRP := Lib.hid (show Rb w6 g6 (some ⟨g, p, none⟩) ((PAD.drop p).take 64) by have := HRP.out.part (p := p); rw [Nat.zero_add] at this; exact this)
              have HTH := Lib.hid (show block1 (thr S0 PAD k) (sched (words16 ((PAD.drop p).take 64) 0)) = thr S0 PAD (k + 1) by rw [words16_part, HP.out, thr])
              have HQQ := Lib.hid hq
              have HQK := Lib.hid (show q = 64 * (k + 1) by have := HP.out; omega)
              have HLTQ := Lib.hid (show Q - q < Q - p by omega)
              obtain ⟨y1, z1⟩ := iwrap ((p : Int) + 64) q (by omega) (by omega)
              clear hq
              go_wp2_with fail
              try simp only [List.cons_append, List.nil_append]
              refine wp_region_held_drew (S := fun _ => True) (by kernel_rfl) (trivial) (fun hHeld => ?_)
              refine take_at (some 45) (i := 1) (v := ?_) rfl rfl (by kernel_rfl) (by kernel_rfl) (by kernel_rfl) (fun _ _ _ h => h) (Or.inl ⟨by kernel_rfl, ?_⟩) hHeld ?_
              rotate_left
              · intro wz hSw; go_simp; try (with_reducible rfl)
              try simp only [Act.put, List.setIfInBounds_toArray, List.set_cons_zero, List.set_cons_succ, List.getElem_toArray, List.getElem_cons_succ, List.getElem_cons_zero]
              refine take_at (some 46) (i := 2) (v := ?_) rfl rfl (by kernel_rfl) (by kernel_rfl) (by kernel_rfl) (fun _ _ _ h => h) (Or.inl ⟨by kernel_rfl, ?_⟩) hHeld ?_
              rotate_left
              · intro wz hSw; go_simp; try (with_reducible rfl)
              try simp only [Act.put, List.setIfInBounds_toArray, List.set_cons_zero, List.set_cons_succ, List.getElem_toArray, List.getElem_cons_succ, List.getElem_cons_zero]
              refine take_at (some 47) (i := 3) (v := ?_) rfl rfl (by kernel_rfl) (by kernel_rfl) (by kernel_rfl) (fun _ _ _ h => h) (Or.inl ⟨by kernel_rfl, ?_⟩) hHeld ?_
              rotate_left
              · intro wz hSw; go_simp; try (with_reducible rfl)
              try simp only [Act.put, List.setIfInBounds_toArray, List.set_cons_zero, List.set_cons_succ, List.getElem_toArray, List.getElem_cons_succ, List.getElem_cons_zero]
              refine take_at (some 48) (i := 4) (v := ?_) rfl rfl (by kernel_rfl) (by kernel_rfl) (by kernel_rfl) (fun _ _ _ h => h) (Or.inl ⟨by kernel_rfl, ?_⟩) hHeld ?_
              rotate_left
              · intro wz hSw; go_simp; try (with_reducible rfl)
              try simp only [Act.put, List.setIfInBounds_toArray, List.set_cons_zero, List.set_cons_succ, List.getElem_toArray, List.getElem_cons_succ, List.getElem_cons_zero]
              refine take_at (some 49) (i := 5) (v := ?_) rfl rfl (by kernel_rfl) (by kernel_rfl) (by kernel_rfl) (fun _ _ _ h => h) (Or.inl ⟨by kernel_rfl, ?_⟩) hHeld ?_
              rotate_left
              · intro wz hSw; go_simp; try (with_reducible rfl)
              try simp only [Act.put, List.setIfInBounds_toArray, List.set_cons_zero, List.set_cons_succ, List.getElem_toArray, List.getElem_cons_succ, List.getElem_cons_zero]
              refine gen_any2 (fun u => Bk u g6 80 (s8 (thr S0 PAD k)) ∧ Below g6 w6 u) ⟨HK.out.drew, HB.out.drew⟩ (fun u0 hu0 => ?_)
              have HK0 := Lib.hid hu0.1
              have HB0 := Lib.hid hu0.2
              clear hu0
              refine wpAnyH_ready (rs := [0]) (by kernel_rfl) (by simp) (AllReadyH.cons rfl (fun K hK => ?_) AllReadyH.nil)
              rw [if_pos (by kernel_rfl)]
              refine wp_load_row 80 (.tmp 6) rfl g6 rfl 80 _ (0, 0) _ HK0.out Tryd.underlying80 rfl (HE8.out _) ?_
              try dsimp only
              refine hK.out _ _ trivial (fun hHeld => ?_)
              try simp only [Act.put, List.setIfInBounds_toArray, List.set_cons_zero, List.set_cons_succ, List.getElem_toArray, List.getElem_cons_succ, List.getElem_cons_zero]
              refine wpAnyH_ready (rs := [6]) (by kernel_rfl) (by simp) (AllReadyH.cons rfl (fun K hK => ?_) AllReadyH.nil)
              rw [if_pos (by kernel_rfl)]
              go_simp
              refine (rblock_ok (thr S0 PAD k) g p (cA - p) ((PAD.drop p).take 64) _ (thr_ok S0_ok _ _) HPL.out (by have h1 := HGS.out; have h2 := HB0.out.size; have h3 := HG6.out; omega) HCP.out ((HRP.out.below HB0.out (Nat.le_refl _)).more (by have h2 := HB0.out.size; have h3 := HG6.out; omega))).mono ?_
              rintro e u1 ⟨rfl, hb⟩
              have HK1 := Lib.hid (HK0.out.below hb HK0.out.lt)
              have HB1 := Lib.hid (HB0.out.trans (hb.mono (by have := HK0.out.lt; omega)))
              clear hb
              try dsimp only
              refine hK.out _ _ trivial (fun hHeld => ?_)
              try simp only [Act.put, List.setIfInBounds_toArray, List.set_cons_zero, List.set_cons_succ, List.getElem_toArray, List.getElem_cons_succ, List.getElem_cons_zero]
              refine wpAnyH_ready (rs := [7]) (by kernel_rfl) (by simp) (AllReadyH.cons rfl (fun K hK => ?_) AllReadyH.nil)
              rw [if_pos (by kernel_rfl)]
              refine wp_store_row 80 (.tmp 6) (.tmp 50) rfl g6 _ rfl rfl 80 _ HK1.out (HE8.out _) (s8_same _ _) (s8_one _) ?_
              try dsimp only
              refine hK.out _ _ trivial (fun hHeld => ?_)
              try simp only [Act.put, List.setIfInBounds_toArray, List.set_cons_zero, List.set_cons_succ, List.getElem_toArray, List.getElem_cons_succ, List.getElem_cons_zero]
              refine wpAnyH_done (by kernel_rfl) ?_ _
              go_wp2_with fail
              go_roundw
              case rel => exact ⟨k + 1, q, by omega, HQK, rfl, Lib.hid (by rw [← HTH.out]; exact HK1.out.setRow _), Lib.hid (Below.setRow HB1.out _ (Nat.le_refl _) _)⟩
              case measure => exact HLTQ.out
            · have hkn : k = nb := by omega
              subst hkn
              have b3 : (Q : Int) ≤ (p : Int) := by have := HP.out; have := HQ64.out; omega
              obtain ⟨st, hst⟩ : ∃ st, st = thr S0 PAD k := ⟨_, rfl⟩
              have HOKS := Lib.hid (show st.Ok by rw [hst]; exact thr_ok S0_ok _ _)
              rw [← hst] at HK HSUM
              clear hst
              go_upto_region 15 with fail
              refine gen_world (fun u => Bk u g6 80 (s8 st) ∧ Bk u wr.heap.size 68 (bcells (List.replicate 32 0)) ∧ Bk u w.heap.size 68 (bcells (List.replicate 32 0)) ∧ Below w.heap.size w u) ⟨HK.out.alloc _, zeros_new wr, (HA6.out.below HB.out HWS.out).alloc _, (HBW.out.trans (HB.out.mono (by have := HWS.out; omega))).alloc ((HBW.out.trans (HB.out.mono (by have := HWS.out; omega))).size) _⟩ (fun w8 hw8 => ?_)
              obtain ⟨g8, hg8⟩ : ∃ g, g = wr.heap.size := ⟨_, rfl⟩
              rw [← hg8] at hw8 ⊢
              have HG68 := Lib.hid (show g6 < g8 by have := HK.out.lt; omega)
              have HK8 := Lib.hid hw8.1
              have HF8 := Lib.hid (show Bk w8 g8 68 (bcells ((outB st).take 0 ++ List.replicate (32 - 0) 0)) from hw8.2.1)
              have HA8 := Lib.hid hw8.2.2.1
              have HB8 := Lib.hid hw8.2.2.2
              clear hw8 hg8 HK HB HA6 HBW
              go_wp2_with fail
              go_loopw [9] (fun v9 wr => ∃ i : Nat, i ≤ 32 ∧ v9 = .int .i64 i ∧ Hid (Bk wr g8 68 (bcells ((outB st).take i ++ List.replicate (32 - i) 0))) ∧ Hid (Below g8 w8 wr)) (fun v9 _ => 32 - (intOf v9).toNat)
              case atStart => exact ⟨0, by omega, rfl, HF8, Lib.hid (Below.refl _ _)⟩
              case round =>
                obtain ⟨i, hi, rfl, HF, HB⟩ := hrel
                clear HF8
                by_cases hi1 : i < 32
                · obtain ⟨a, ha⟩ : ∃ a, a = i / 4 := ⟨_, rfl⟩
                  obtain ⟨t, ht⟩ : ∃ t, t = i % 4 := ⟨_, rfl⟩
                  obtain ⟨e, he⟩ : ∃ e, e = 8 * t := ⟨_, rfl⟩
                  obtain ⟨f, hf⟩ : ∃ f, f + e = 24 := ⟨24 - e, by omega⟩
                  have c1 : (i : Int) / 4 = (a : Int) := by omega
                  have c2 : (i : Int).tdiv 4 = (a : Int) := by rw [Int.tdiv_eq_ediv_of_nonneg (by omega)]; exact c1
                  have c3' : (i : Int) % 4 = (t : Int) := by omega
                  have c4 : (i : Int).tmod 4 = (t : Int) := by rw [Int.tmod_eq_emod_of_nonneg (by omega)]; exact c3'
                  have d7 : (min f 32 : Nat) = f := by omega
                  have d8 : (0 : Int) ≤ (f : Int) := by omega
                  have ba : (a : Int) < 8 := by omega
                  have bi : (i : Int) < 32 := by omega
                  have HX := Lib.hid (show w8.cell? ⟨g6, a, none⟩ = some (wd (st.list.getD a 0)) from (HK8.out.cell a).trans (s8_get st a (by omega)))
                  have hx : wr.cell? ⟨g6, a, none⟩ = some (.int .u32 ((st.list.getD a 0 : Nat) : Int)) := (HB.out.cell (p := ⟨g6, a, none⟩) HG68.out).trans HX.out
                  have HON := Lib.hid (outB_next st i hi1)
                  rw [← ha, ← ht, ← he, show 24 - e = f by omega] at HON
                  obtain ⟨x, hxx⟩ : ∃ x, x = st.list.getD a 0 := ⟨_, rfl⟩
                  rw [← hxx] at hx HON
                  obtain ⟨y, hy⟩ : ∃ y, y = x / 2 ^ f := ⟨_, rfl⟩
                  have d9 : (x : Int) / 2 ^ f = (y : Int) := by rw [hy, Int.natCast_ediv, Int.natCast_pow]; rfl
                  rw [← hy] at HON
                  have HYC := Lib.hid (show Go.Proofs.YtinbegnojfpeiaaDoor.u8 (UInt8.ofNat y) = .int .u8 ((y : Int) % 256) by
                    show Value.int .u8 (((UInt8.ofNat y).toNat : Nat) : Int) = _
                    rw [UInt8.toNat_ofNat']; simp)
                  have HFN := Lib.hid (fill_next (outB st) i (UInt8.ofNat y) (outB_len st) hi1 HON.out)
                  have hcell : wr.cell? ⟨g8, i, none⟩ = some (.int .u8 0) := (HF.out.cell i).trans HFN.out.1
                  have hfro : wr.frozen? ⟨g8, i, none⟩ = false := HF.out.frozen i
                  have D1 := Lib.hid (iwrap (8 * (t : Int)) e (by omega) (by omega))
                  have D2 := Lib.hid (iwrap (24 - (e : Int)) f (by omega) (by omega))
                  obtain ⟨d1, d2⟩ := D1.out
                  obtain ⟨d4, d5⟩ := D2.out
                  clear ha ht he hf hxx hy HX
                  go_wp2_with fail
                  go_roundw
                  case rel =>
                    refine ⟨i + 1, by omega, by go_num, Lib.hid ?_, Lib.hid (HB.out.setCell (p := ⟨g8, i, none⟩) (Nat.le_refl _) _)⟩
                    rw [← HFN.out.2, HYC.out]
                    exact HF.out.set i _
                  case measure => simp [intOf]; omega
                · have hi2 : (32 : Int) ≤ (i : Int) := by omega
                  have HFF := Lib.hid (show Bk wr g8 68 (bcells (outB st)) by
                    have := HF.out
                    rw [show i = 32 by omega, List.take_of_length_le (by rw [outB_len]; omega)] at this
                    simpa using this)
                  have HAZ := Lib.hid (show Bk wr w.heap.size 68 (bcells (List.replicate 32 0)) from HA8.out.below HB.out (by have h1 := HG68.out; have h2 := HWS.out; omega))
                  have HEO := Lib.hid (show (Tryd.prog.info? 68).map (·.size) = some (bcells (outB st)).size by rw [bcells_size, outB_len]; kernel_rfl)
                  have HEO2 := Lib.hid (show (bcells (List.replicate 32 0)).size = (bcells (outB st)).size by rw [bcells_size, bcells_size, outB_len, List.length_replicate])
                  have HBZ := Lib.hid (show Below w.heap.size w wr from HB8.out.trans (HB.out.mono (by have h1 := HG68.out; have h2 := HWS.out; omega)))
                  clear HF
                  go_wp2_with (first
                    | refine wpList_load_row rfl 68 (.tmp 8) rfl g8 rfl 68 _ (0, 0) _ HFF.out Tryd.underlying68 rfl HEO.out ?_
                    | refine wpList_store_row rfl 68 (.tmp 2) (.tmp 67) rfl w.heap.size _ rfl rfl 68 _ HAZ.out HEO.out HEO2.out (bcells_one _) ?_)
                  obtain ⟨w9, hw9⟩ : ∃ w9, w9 = wr.setRow w.heap.size (bcells (outB st)) := ⟨_, rfl⟩
                  have HB9 : Bk w9 w.heap.size 68 (bcells (outB st)) := by rw [hw9]; exact HAZ.out.setRow _
                  have hbel9 : Below w.heap.size w w9 := by rw [hw9]; exact Below.setRow HBZ.out _ (Nat.le_refl _) _
                  rw [← hw9]
                  refine bodyPost_ret (results_cell_row rfl _ _ w.heap.size 68 _ (0, 0) _ rfl HB9 Tryd.underlying68 rfl HEO.out) rfl ?_
                  exact ⟨by rw [HSUM.out], hbel9⟩
end Go.Proofs.YtinbegnojfpeiaaDoor
