/- The document's own: head, Right, cut: their contracts. -/
import Derived.Test.YtmdijhfkobcbjaaSyn1
import Derived.Test.YtmdijhfkobcbjaaSyn3
import Derived.Test.YtmdijhfkobcbjaaSyn4
import Derived.Test.YtmdijhfkobcbjaaSMathB
namespace Go.Proofs.Ytmdijhfkobcbjaa
set_option linter.unusedVariables false
set_option linter.unusedSimpArgs false
open Go.RowKit

set_option maxHeartbeats 400000 in
theorem rhead_ok (bits a : Nat) (w : World) (hb : bits ≤ 32) (ha : a < 4294967296) :
    Calls Try.prog 35 #[.int .u32 a, .int .i64 bits] w fun e w' => e = .returned (.int .u32 (firstN bits a)) ∧ w = w' := by
  by_cases h0 : bits = 0
  · subst h0
    rw [first_none a ha]
    go_enter Try.func35, Try.ntmps35
    go_wp2
    go_ret
    exact ⟨rfl, rfl⟩
  · have h1 : ((bits : Int) == 0) = false := by rw [beq_eq_false_iff_ne]; omega
    go_enter Try.func35, Try.ntmps35
    go_wp2
    rw [first_cast bits a ha]
    go_ret
    exact ⟨rfl, rfl⟩
theorem rhead_q (bits a : Nat) (w : World) (hb : bits ≤ 32) (ha : a < 4294967296) :
    Calls Try.prog 35 #[.int .u32 a, .int .i64 bits] w fun e w' => e = .returned (.int .u32 (firstN bits a)) ∧ ∃ m, w' = w.drewN m :=
  (rhead_ok bits a w hb ha).mono fun e w' ⟨h1, h2⟩ => ⟨h1, 0, h2.symm⟩

set_option maxHeartbeats 1000000 in
theorem rright_ok (a : Nat) (bits : Int) (w : World) (ha : a < 4294967296) :
    Calls Try.prog 29 #[.agg #[.int .u32 a, .int .i64 bits]] w fun e w' => e = .returned (.bool (rightB a bits)) ∧ Below w.heap.size w w' := by
  have hbel : ∀ n, Below w.heap.size w ((w.alloc (.cells #[.int .u32 a, .int .i64 bits] 24)).drewN n) := fun n => below_drewN ((Below.refl _ _).alloc (Nat.le_refl _) _) n
  have HB := Lib.hid hbel
  clear hbel
  by_cases h0 : 0 ≤ bits
  · by_cases h1 : bits ≤ 32
    · obtain ⟨b, rfl⟩ := Int.eq_ofNat_of_zero_le h0
      have hb : b ≤ 32 := by omega
      have hr : rightB a b = decide (firstN b a = a) := by
        have e1 : decide ((0 : Int) ≤ (b : Int)) = true := by simp
        have e2 : decide ((b : Int) ≤ 32) = true := by simp; omega
        unfold rightB
        rw [e1, e2]; simp
      rw [hr]
      clear hr h0
      have hd1 : decide ((0 : Int) ≤ (b : Int)) = true := by simp
      have hd2 : decide ((b : Int) ≤ 32) = true := by simp; omega
      have HE := Lib.hid (cast_eq (firstN b a) a)
      go_enter Try.func29, Try.ntmps29
      go_wp2
      go_quiet (((go_at_call 35; with_reducible exact Calls.quiet_of (rhead_q b a _ hb ha))))
      go_wp2
      go_ret
      exact ⟨by rw [← HE.out]; rfl, HB.out _⟩
    · have hr : rightB a bits = false := by simp [rightB, h1]
      rw [hr]
      clear hr
      have hd1 : decide ((0 : Int) ≤ bits) = true := by simpa using h0
      have hd2 : decide (bits ≤ 32) = false := by simpa using h1
      go_enter Try.func29, Try.ntmps29
      go_wp2
      go_quiet (fail)
      go_wp2
      go_ret
      exact ⟨rfl, HB.out _⟩
  · have hr : rightB a bits = false := by simp [rightB, h0]
    rw [hr]
    clear hr
    have hd1 : decide ((0 : Int) ≤ bits) = false := by simpa using h0
    go_enter Try.func29, Try.ntmps29
    go_wp2
    go_quiet (fail)
    go_wp2
    go_ret
    exact ⟨rfl, HB.out _⟩

theorem cut_step (c : UInt8) (l : List UInt8) (i : Nat) (h : i < l.length) (x : UInt8) (hx : l.getD i 0 = x) : l.drop i = x :: l.drop (i + 1) ∧ l.take (i + 1) = l.take i ++ [x] := by
  have e : l[i] = x := by rw [← hx, List.getD, List.getElem?_eq_getElem h]; rfl
  exact ⟨by rw [List.drop_eq_getElem_cons h, e], by rw [List.take_succ_eq_append_getElem h, e]⟩

set_option maxHeartbeats 1000000 in
theorem rcut_ok (s : ByteArray) (c : UInt8) (w : World) (hs : s.size ≤ 140737488355328) :
    Calls Try.prog 26 #[.string s, .int .u8 (c.toNat : Int)] w fun e w' => e = .returned (cutV c s) ∧ ∃ n, w' = w.drewN n := by
  obtain ⟨R, hR⟩ : ∃ R, cutV c s = R := ⟨_, rfl⟩
  rw [hR]
  have HR := Lib.hid hR
  clear hR
  obtain ⟨cn, hcn⟩ : ∃ cn, c.toNat = cn := ⟨_, rfl⟩
  have HC := Lib.hid hcn
  rw [hcn]
  clear hcn
  go_enter Try.func26, Try.ntmps26
  go_wp2_with fail
  go_loop [7] (fun v7 => ∃ i : Nat, i ≤ s.size ∧ v7 = .int .i64 i ∧ Hid (cutL c s.data.toList = (s.data.toList.take i ++ (cutL c (s.data.toList.drop i)).1, (cutL c (s.data.toList.drop i)).2.1, (cutL c (s.data.toList.drop i)).2.2))) (fun v7 => s.size - (intOf v7).toNat)
  case atStart => exact ⟨0, by omega, rfl, Lib.hid rfl⟩
  case round =>
    obtain ⟨i, hi, rfl, HE⟩ := hrel
    by_cases hlt : i < s.size
    · obtain ⟨x, hx⟩ : ∃ x, s.data.toList.getD i 0 = x := ⟨_, rfl⟩
      obtain ⟨v, hv⟩ : ∃ v, x.toNat = v := ⟨_, rfl⟩
      have hxi := sidx s i v hlt (by rw [hx, hv]) w
      have hst := cut_step c s.data.toList i hlt x hx
      have hE := HE.out
      rw [hst.1, cutL] at hE
      by_cases he : x = c
      · rw [if_pos he] at hE
        have hvc : v = cn := by rw [← hv, he, HC.out]
        have HF := Lib.hid (show R = .tuple #[.string (s.extract 0 i), .string (s.extract (i + 1) s.size), .bool true] by
          rw [← HR.out, cutV, hE, ex_take, ex_drop s (i + 1) (by omega), List.append_nil])
        have c1 : (0 : Int) ≤ ↑i := by omega
        have c2 : (↑i : Int) ≤ ↑s.size := by omega
        have c3 : (0 : Int) ≤ ↑i + 1 := by omega
        have c4 : (↑i + 1 : Int) ≤ ↑s.size := by omega
        clear hE hst hx hv he HE HR HC
        subst hvc
        go_wp2
        go_quiet (fail)
        go_wp2
        go_ret3
        exact ⟨by rw [HF.out]; rfl, nq, rfl⟩
      · rw [if_neg he] at hE
        have hne : ((v : Int) == (cn : Int)) = false := by
          rw [beq_eq_false_iff_ne]
          intro h
          apply he
          have : v = cn := by omega
          rw [← hv, ← HC.out] at this
          exact UInt8.toNat_inj.1 this
        have HE2 := Lib.hid (show cutL c s.data.toList = (s.data.toList.take (i + 1) ++ (cutL c (s.data.toList.drop (i + 1))).1, (cutL c (s.data.toList.drop (i + 1))).2.1, (cutL c (s.data.toList.drop (i + 1))).2.2) by
          rw [hE, hst.2, List.append_assoc]; rfl)
        clear hE hst hx hv he HE
        go_wp2
        go_round
        case rel => exact ⟨i + 1, by omega, by go_num, HE2⟩
        case measure => simp [intOf]; omega
    · have HF := Lib.hid (show R = .tuple #[.string s, .string ⟨#[]⟩, .bool false] by
        have hl : s.data.toList.length = s.size := rfl
        have hE := HE.out
        rw [List.drop_of_length_le (by omega), cutL, List.take_of_length_le (by omega)] at hE
        rw [← HR.out, cutV, hE, List.append_nil, bs_of]; rfl)
      clear HE HR
      go_wp2
      go_ret3
      exact ⟨by rw [HF.out]; rfl, 0, rfl⟩
end Go.Proofs.Ytmdijhfkobcbjaa
