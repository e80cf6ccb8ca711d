/- Syn4, SMath, SMathB, SRef1, RefDec, SNameM, SRef2, Cz2: texts of this seat, one behind the other. -/
import Derived.Test.YtekobdmlgbffnaaGreatDoorG1
import Derived.Test.YtekobdmlgbffnaaGreatDoorShelf
import Derived.Lib.CutLaws
import Derived.BigQuiet
import Derived.Deep.QuietTactic
import Derived.Test.YtekobdmlgbffnaaGreatDoorG3
import Derived.Test.YtekobdmlgbffnaaGreatDoorRows
import Derived.Test.YtekobdmlgbffnaaGreatDoorG2
import Derived.Test.YtekobdmlgbffnaaGreatDoorG17
/- strings.Cut at a mark of one byte; syntax.pieces: what it makes. -/
namespace Go.Proofs.YtekobdmlgbffnaaGreatDoor
set_option linter.unusedVariables false
set_option maxRecDepth 100000
set_option linter.unusedSimpArgs false
open Go.RowKit

def cutV (c : UInt8) (s : ByteArray) : Value := .tuple #[.string (bs (cutL c s.data.toList).1), .string (bs (cutL c s.data.toList).2.1), .bool (cutL c s.data.toList).2.2]

end Go.Proofs.YtekobdmlgbffnaaGreatDoor

/- Nets within nets: plain mathematics. -/
namespace Go.Proofs.YtekobdmlgbffnaaGreatDoor
set_option linter.unusedVariables false
set_option maxRecDepth 100000
set_option linter.unusedSimpArgs false

end Go.Proofs.YtekobdmlgbffnaaGreatDoor

/- A net's halves; an address with a bit turned: plain mathematics. -/
namespace Go.Proofs.YtekobdmlgbffnaaGreatDoor
set_option linter.unusedVariables false
set_option maxRecDepth 100000
set_option linter.unusedSimpArgs false

theorem first_none (a : Nat) (ha : a < 4294967296) : firstN 0 a = 0 := by
  unfold firstN
  rw [Nat.div_eq_of_lt (by show a < 2 ^ 32; exact ha), Nat.zero_mul]
end Go.Proofs.YtekobdmlgbffnaaGreatDoor

/- The document's own: head, Right, cut: their contracts. -/
namespace Go.Proofs.YtekobdmlgbffnaaGreatDoor
set_option linter.unusedVariables false
set_option maxRecDepth 100000
set_option linter.unusedSimpArgs false
open Go.RowKit

set_option maxHeartbeats 400000 in
theorem rhead_ok (bits a : Nat) (w : World) (hb : bits ≤ 32) (ha : a < 4294967296) :
    Calls Tryz.prog 117 #[.int .u32 a, .int .i64 bits] w fun e w' => e = .returned (.int .u32 (firstN bits a)) ∧ w = w' := by
  by_cases h0 : bits = 0
  · subst h0
    rw [first_none a ha]
    go_enter Tryz.func117, Tryz.ntmps117
    go_wp2
    go_ret
    exact ⟨rfl, rfl⟩
  · have h1 : ((bits : Int) == 0) = false := by rw [beq_eq_false_iff_ne]; omega
    go_enter Tryz.func117, Tryz.ntmps117
    go_wp2
    rw [first_cast bits a ha]
    go_ret
    exact ⟨rfl, rfl⟩
theorem rhead_q (bits a : Nat) (w : World) (hb : bits ≤ 32) (ha : a < 4294967296) :
    Calls Tryz.prog 117 #[.int .u32 a, .int .i64 bits] w fun e w' => e = .returned (.int .u32 (firstN bits a)) ∧ ∃ m, w' = w.drewN m :=
  (rhead_ok bits a w hb ha).mono fun e w' ⟨h1, h2⟩ => ⟨h1, 0, h2.symm⟩

set_option maxHeartbeats 1000000 in
theorem rright_ok (a : Nat) (bits : Int) (w : World) (ha : a < 4294967296) :
    Calls Tryz.prog 88 #[.agg #[.int .u32 a, .int .i64 bits]] w fun e w' => e = .returned (.bool (rightB a bits)) ∧ Below w.heap.size w w' := by
  have hbel : ∀ n, Below w.heap.size w ((w.alloc (.cells #[.int .u32 a, .int .i64 bits] 85)).drewN n) := fun n => below_drewN ((Below.refl _ _).alloc (Nat.le_refl _) _) n
  have HB := Lib.hid hbel
  clear hbel
  by_cases h0 : 0 ≤ bits
  · by_cases h1 : bits ≤ 32
    · obtain ⟨b, rfl⟩ := Int.eq_ofNat_of_zero_le h0
      have hb : b ≤ 32 := by omega
      have hr : rightB a b = decide (firstN b a = a) := by
        have e1 : decide ((0 : Int) ≤ (b : Int)) = true := by simp
        have e2 : decide ((b : Int) ≤ 32) = true := by simp; omega
        unfold rightB
        rw [e1, e2]; simp
      rw [hr]
      clear hr h0
      have hd1 : decide ((0 : Int) ≤ (b : Int)) = true := by simp
      have hd2 : decide ((b : Int) ≤ 32) = true := by simp; omega
      have HE := Lib.hid (cast_eq (firstN b a) a)
      go_enter Tryz.func88, Tryz.ntmps88
      go_wp2
      go_quiet (((go_at_call 117; with_reducible exact Calls.quiet_of (rhead_q b a _ hb ha))))
      go_wp2
      go_ret
      exact ⟨by rw [← HE.out]; rfl, HB.out _⟩
    · have hr : rightB a bits = false := by simp [rightB, h1]
      rw [hr]
      clear hr
      have hd1 : decide ((0 : Int) ≤ bits) = true := by simpa using h0
      have hd2 : decide (bits ≤ 32) = false := by simpa using h1
      go_enter Tryz.func88, Tryz.ntmps88
      go_wp2
      go_quiet (fail)
      go_wp2
      go_ret
      exact ⟨rfl, HB.out _⟩
  · have hr : rightB a bits = false := by simp [rightB, h0]
    rw [hr]
    clear hr
    have hd1 : decide ((0 : Int) ≤ bits) = false := by simpa using h0
    go_enter Tryz.func88, Tryz.ntmps88
    go_wp2
    go_quiet (fail)
    go_wp2
    go_ret
    exact ⟨rfl, HB.out _⟩

end Go.Proofs.YtekobdmlgbffnaaGreatDoor

/- The document's answers for numbers: Decimal: its contract. -/
namespace Go.Proofs.YtekobdmlgbffnaaGreatDoor
set_option linter.unusedVariables false
set_option maxRecDepth 100000
set_option linter.unusedSimpArgs false
open Go.RowKit

/-- The decimals of a number; none of 0. -/
def mk10 (r : Nat) : List UInt8 := if r = 0 then [] else decB r
end Go.Proofs.YtekobdmlgbffnaaGreatDoor

/- Names with more behind them: plain mathematics. -/
namespace Go.Proofs.YtekobdmlgbffnaaGreatDoor
set_option linter.unusedVariables false
set_option maxRecDepth 100000
set_option linter.unusedSimpArgs false

def letB (c : UInt8) : Bool := (decide (97 ≤ c.toNat) && decide (c.toNat ≤ 122)) || (decide (48 ≤ c.toNat) && decide (c.toNat ≤ 57))
def nameL (l : List UInt8) : Bool := decide (1 ≤ l.length) && decide (l.length ≤ 20) && decide ((l.getD 0 0).toNat ≠ 45) && decide ((l.getD (l.length - 1) 0).toNat ≠ 45) && l.all nmdB
structure NameP (l : List UInt8) : Prop where
  one : 1 ≤ l.length
  most : l.length ≤ 20
  first : (l.getD 0 0).toNat ≠ 45
  last : (l.getD (l.length - 1) 0).toNat ≠ 45
  all : l.all nmdB = true
theorem name_p {l : List UInt8} (h : nameL l = true) : NameP l := by
  unfold nameL at h
  simp only [Bool.and_eq_true, decide_eq_true_eq] at h
  exact ⟨h.1.1.1.1, h.1.1.1.2, h.1.1.2, h.1.2, h.2⟩
theorem NameP.ne {l : List UInt8} (h : NameP l) : l ≠ [] := by
  intro e; have := h.one; rw [e] at this; simp at this

end Go.Proofs.YtekobdmlgbffnaaGreatDoor

/- The document's own: Name, Dots: their contracts. -/
namespace Go.Proofs.YtekobdmlgbffnaaGreatDoor
set_option linter.unusedVariables false
set_option maxRecDepth 100000
set_option linter.unusedSimpArgs false
open Go.RowKit

def okI (l : List UInt8) (i : Nat) : Bool := letB (l.getD i 0) || (decide ((l.getD i 0).toNat = 45) && decide (0 < i) && decide (i + 1 < l.length))
theorem nmd_let (c : UInt8) : nmdB c = (letB c || decide (c.toNat = 45)) := rfl
theorem ok_nmd (l : List UInt8) (i : Nat) (h : okI l i = true) : nmdB (l.getD i 0) = true := by
  unfold okI at h
  rw [nmd_let]
  simp only [Bool.or_eq_true, Bool.and_eq_true, decide_eq_true_eq] at h ⊢
  rcases h with h | h
  · exact .inl h
  · exact .inr h.1.1
theorem let_not (c : UInt8) (h : letB c = true) : c.toNat ≠ 45 := by
  intro e
  unfold letB at h
  rw [e] at h
  simp at h
theorem all_getD (p : UInt8 → Bool) (l : List UInt8) : l.all p = true ↔ ∀ i, i < l.length → p (l.getD i 0) = true := by
  rw [List.all_eq_true]
  constructor
  · intro h i hi
    rw [List.getD, List.getElem?_eq_getElem hi]
    exact h _ (List.getElem_mem hi)
  · intro h x hx
    obtain ⟨i, hi, rfl⟩ := List.mem_iff_getElem.1 hx
    have := h i hi
    rwa [List.getD, List.getElem?_eq_getElem hi] at this
theorem name_all (l : List UInt8) (h : ∀ i, i < l.length → okI l i = true) : nameL l = (decide (1 ≤ l.length) && decide (l.length ≤ 20)) := by
  unfold nameL
  have ha : l.all nmdB = true := (all_getD nmdB l).2 (fun i hi => ok_nmd l i (h i hi))
  rw [ha]
  by_cases h1 : 1 ≤ l.length
  · have g0 := h 0 (by omega)
    have g1 := h (l.length - 1) (by omega)
    have e0 : (l.getD 0 0).toNat ≠ 45 := by
      unfold okI at g0
      simp only [Bool.or_eq_true, Bool.and_eq_true, decide_eq_true_eq] at g0
      rcases g0 with g | g
      · exact let_not _ g
      · omega
    have e1 : (l.getD (l.length - 1) 0).toNat ≠ 45 := by
      unfold okI at g1
      simp only [Bool.or_eq_true, Bool.and_eq_true, decide_eq_true_eq] at g1
      rcases g1 with g | g
      · exact let_not _ g
      · omega
    rw [decide_eq_true e0, decide_eq_true e1]; simp
  · simp [h1]
theorem name_not (l : List UInt8) (i : Nat) (hi : i < l.length) (h : okI l i = false) : nameL l = false := by
  cases hn : nameL l with
  | false => rfl
  | true =>
    have p := name_p hn
    have ha := (all_getD nmdB l).1 p.all i hi
    rw [nmd_let] at ha
    unfold okI at h
    simp only [Bool.or_eq_true, Bool.or_eq_false_iff, Bool.and_eq_false_iff, decide_eq_true_eq, decide_eq_false_iff_not] at ha h
    rcases ha with g | g
    · rw [h.1] at g; cases g
    · rcases h.2 with (h2 | h2) | h2
      · exact (h2 g).elim
      · have : i = 0 := by omega
        subst this
        exact (p.first g).elim
      · have : i = l.length - 1 := by omega
        subst this
        exact (p.last g).elim

set_option maxRecDepth 100000 in
set_option maxHeartbeats 2000000 in
theorem rname_ok (s : ByteArray) (w : World) (hs : s.size ≤ 140737488355328) :
    Calls Tryz.prog 87 #[.string s] w fun e w' => e = .returned (.bool (nameB s)) ∧ w = w' := by
  obtain ⟨R, hR⟩ : ∃ R, nameL s.data.toList = R := ⟨_, rfl⟩
  rw [show nameB s = R from hR]
  have HR := Lib.hid hR
  clear hR
  go_enter Tryz.func87, Tryz.ntmps87
  go_wp2_with fail
  go_loop [3] (fun v3 => ∃ i : Nat, i ≤ s.size ∧ v3 = .int .i64 i ∧ Hid (∀ j, j < i → okI s.data.toList j = true)) (fun v3 => s.size - (intOf v3).toNat)
  case atStart => exact ⟨0, by omega, rfl, Lib.hid (fun j hj => by omega)⟩
  case round =>
    obtain ⟨i, hi, rfl, HE⟩ := hrel
    by_cases hlt : i < s.size
    · obtain ⟨v, hv⟩ : ∃ v, (s.data.toList.getD i 0).toNat = v := ⟨_, rfl⟩
      have hv2 : v < 256 := by rw [← hv]; exact UInt8.toNat_lt _
      have hxi := sidx s i v hlt hv w
      have HOK := Lib.hid (show okI s.data.toList i = (((decide (97 ≤ v) && decide (v ≤ 122)) || (decide (48 ≤ v) && decide (v ≤ 57))) || (decide (v = 45) && decide (0 < i) && decide (i + 1 < s.size))) by
        unfold okI letB; rw [hv]; rfl)
      have HNO := Lib.hid (fun h : okI s.data.toList i = false => show R = false by rw [← HR.out]; exact name_not _ i hlt h)
      have HYES := Lib.hid (fun h : okI s.data.toList i = true => show ∀ j, j < i + 1 → okI s.data.toList j = true from fun j hj => by
        by_cases hji : j = i
        · rw [hji]; exact h
        · exact HE.out j (by omega))
      clear hv HE HR
      by_cases h45 : v = 45
      · subst h45
        have hxi : (Instr.index 9 (.string s) (.int .i64 (i : Int))).run Tryz.prog w = .ok (.int .u8 45) w := hxi
        by_cases hi0 : 0 < i
        · by_cases hil : i + 1 < s.size
          · have hil2 : (i : Int) < (s.size : Int) - 1 := by omega
            have hil3 : decide ((i : Int) < (s.size : Int) - 1) = true := by simp <;> omega
            go_wp2
            go_round
            case rel => exact ⟨i + 1, by omega, by go_num, Lib.hid (HYES.out (by rw [HOK.out]; simp [hi0, hil]))⟩
            case measure => simp [intOf]; omega
          · have hil2 : (s.size : Int) - 1 ≤ (i : Int) := by omega
            have hil3 : decide ((i : Int) < (s.size : Int) - 1) = false := by simp <;> omega
            go_wp2
            go_ret
            exact ⟨by rw [HNO.out (by rw [HOK.out]; simp [hil])]; rfl, rfl⟩
        · obtain rfl : i = 0 := by omega
          have hxi : (Instr.index 9 (.string s) (.int .i64 0)).run Tryz.prog w = .ok (.int .u8 45) w := hxi
          go_wp2
          go_ret
          exact ⟨by rw [HNO.out (by rw [HOK.out]; simp)]; rfl, rfl⟩
      · have e45 : ((v : Int) == 45) = false := by rw [beq_eq_false_iff_ne]; omega
        by_cases hy : (97 ≤ v ∧ v ≤ 122) ∨ (48 ≤ v ∧ v ≤ 57)
        · have HY := Lib.hid (HYES.out (by rw [HOK.out]; simp; omega))
          clear HOK HNO HYES h45
          rcases hy with ⟨a1, a2⟩ | ⟨a1, a2⟩
          · have b1 : (97 : Int) ≤ (v : Int) := by omega
            have b2 : (v : Int) ≤ 122 := by omega
            go_wp2
            go_round
            case rel => exact ⟨i + 1, by omega, by go_num, HY⟩
            case measure => simp [intOf]; omega
          · have b1 : (48 : Int) ≤ (v : Int) := by omega
            have b2 : (v : Int) ≤ 57 := by omega
            have b3 : (v : Int) < 97 := by omega
            go_wp2
            go_round
            case rel => exact ⟨i + 1, by omega, by go_num, HY⟩
            case measure => simp [intOf]; omega
        · have HN := Lib.hid (HNO.out (by rw [HOK.out]; simp [h45]; omega))
          clear HOK HNO HYES h45
          rcases Nat.lt_or_ge v 48 with a1 | a1
          · have b1 : (v : Int) < 48 := by omega
            have b2 : (v : Int) < 97 := by omega
            go_wp2
            go_ret
            exact ⟨by rw [HN.out]; rfl, rfl⟩
          · rcases Nat.lt_or_ge v 97 with a2 | a2
            · have b1 : (57 : Int) < (v : Int) := by omega
              have b2 : (v : Int) < 97 := by omega
              have b3 : (48 : Int) ≤ (v : Int) := by omega
              go_wp2
              go_ret
              exact ⟨by rw [HN.out]; rfl, rfl⟩
            · have b1 : (122 : Int) < (v : Int) := by omega
              have b2 : (97 : Int) ≤ (v : Int) := by omega
              have b3 : (57 : Int) < (v : Int) := by omega
              have b4 : (48 : Int) ≤ (v : Int) := by omega
              go_wp2
              go_ret
              exact ⟨by rw [HN.out]; rfl, rfl⟩
    · have HF := Lib.hid (show R = (decide (1 ≤ s.size) && decide (s.size ≤ 20)) by
        rw [← HR.out]
        exact name_all _ (fun j hj => HE.out j (by have : s.data.toList.length = s.size := rfl; omega)))
      clear HE HR
      by_cases h1 : 1 ≤ s.size
      · by_cases h2 : s.size ≤ 20
        · rw [decide_eq_true h1, decide_eq_true h2] at HF
          have b1 : decide ((1 : Int) ≤ (s.size : Int)) = true := by simp <;> omega
          have b2 : decide ((s.size : Int) ≤ 20) = true := by simp <;> omega
          go_wp2
          go_ret
          exact ⟨by rw [HF.out]; rfl, rfl⟩
        · rw [decide_eq_true h1, decide_eq_false h2] at HF
          have b1 : decide ((1 : Int) ≤ (s.size : Int)) = true := by simp <;> omega
          have b2 : decide ((s.size : Int) ≤ 20) = false := by simp <;> omega
          go_wp2
          go_ret
          exact ⟨by rw [HF.out]; rfl, rfl⟩
      · rw [decide_eq_false h1] at HF
        have b1 : decide ((1 : Int) ≤ (s.size : Int)) = false := by simp <;> omega
        go_wp2
        go_ret
        exact ⟨by rw [HF.out]; rfl, rfl⟩
end Go.Proofs.YtekobdmlgbffnaaGreatDoor

/- The document's own: time, num, line: their contracts. -/
namespace Go.Proofs.YtekobdmlgbffnaaGreatDoor
set_option linter.unusedVariables false
set_option maxRecDepth 100000
set_option linter.unusedSimpArgs false
open Go.RowKit

theorem rtime_ok (n : Int) (w : World) :
    Calls Tryz.prog 48 #[.int .i64 n] w fun e w' => e = .returned (.bool (timB n)) ∧ Below w.heap.size w w' := by
  have HT := Lib.hid (show timB n = (decide (1 ≤ n) && decide (n ≤ 1073741824)) from rfl)
  by_cases h1 : 1 ≤ n
  · have h2 : decide (1 ≤ n) = true := decide_eq_true h1
    go_enter Tryz.func48, Tryz.ntmps48
    go_wp2
    go_ret
    exact ⟨by rw [HT.out, h2, Bool.true_and]; rfl, Below.refl _ _⟩
  · have h2 : decide (1 ≤ n) = false := decide_eq_false h1
    go_enter Tryz.func48, Tryz.ntmps48
    go_wp2
    go_ret
    exact ⟨by rw [HT.out, h2]; rfl, Below.refl _ _⟩

end Go.Proofs.YtekobdmlgbffnaaGreatDoor
